/-
  A law of this seat's own: a region that draws its order, each of whose operations answers one and the same value in every world that meets a condition S, and leaves a world that meets S, comes to one and the same frame in whatever order; so it is walked once, in the order of the text.
  Bytes in memory, and what a call leaves as it was: the words in which the contracts of this seat are said. Nothing of the program is named here.
  sync.Once: the parts of its slow road, and Do, whatever function is handed to it.
  SHA-256 on lists of numbers: the words that the walks leave, put together. Nothing of the program is named here.
  math/bits.RotateLeft32 and the document's rotr: a number turned to the right.
-/
import Derived.Orders
import Derived.Below
import Derived.WalkKit
import Derived.Test.YtibbinenhmiclaaDoorProg
import Derived.WalkSpells
import Derived.WalkLawsBesides
import Derived.BigQuiet
import Derived.Deep.QuietTactic
import Derived.Outline
import Derived.LoopTactic
import Derived.ProofKit
import Derived.Deep.Slices
import Derived.Deep.Fields
import Derived.Deep.Strs
import Derived.Laws.AppendOwn
import Derived.Laws.OwnMore
import Derived.Laws.AppendOwnNone
import Derived.Laws.CopyOwn
import Derived.Laws.BytesArg
import Derived.Laws.Tables
import Derived.Laws.Rows
import Derived.Lib.Hide
import Derived.Tactics
import Derived.Tactics2
import Derived.Defers
import Derived.Laws.Pointers
import Derived.Laws.LoneSync
import Derived.RegionTactic
import Derived.RegionCalls
import Derived.ChangeAlike
import Derived.Laws.BitsAllLaws
namespace Go.Proofs.YtibbinenhmiclaaDoor
open Go.RowKit

section
variable {P : Program} {ops : Array Oper} {Q : Exit → Act → World → Prop} {S : World → Prop}

/-- What a run, begun in world w, has come to: the value v; all that was in memory is as it was. -/
def GoodRun (P : Program) (w : World) (v : Value) : Result Next → Prop
  | .ok (.value u) w' => u = v ∧ w' = w
  | .ok (.enter f args) w' => w' = w ∧ Calls P f args w (fun e w'' => e = .returned v ∧ Below w.heap.size w w'')
  | _ => False

/-- A condition that stays where all that was in memory stays. -/
def Stays (S : World → Prop) : Prop := ∀ w w', S w → Below w.heap.size w w' → S w'

/-- In state a, from every world that meets S, the operation answers v. -/
def FlowOp (P : Program) (ops : Array Oper) (S : World → Prop) (o : Oper) (v : Value) (a : Act) : Prop :=
  (Region.wanted o (yielded ops a.tmps) = true ∧ ∀ w, S w → GoodRun P w v ((execOp a.eval o).run P w)) ∨
  (Region.wanted o (yielded ops a.tmps) = false ∧ v = undef)

theorem FlowOp.of_same {o : Oper} {v : Value} {a a' : Act} (hy : FlowOp P ops S o v a) (he : execOp a'.eval o = execOp a.eval o)
    (hw : Region.wanted o (yielded ops a'.tmps) = Region.wanted o (yielded ops a.tmps)) : FlowOp P ops S o v a' := by
  unfold FlowOp at *
  rw [he, hw]
  exact hy

theorem FlowOp.wpOp {i : Nat} {o : Oper} {v : Value} {a : Act} (hi : ops[i]? = some o) (hy : FlowOp P ops S o v a)
    {K : Act → World → Prop} {w : World} (hS : S w) (h : ∀ w', Below w.heap.size w w' → K (a.put o.dst v) w') : wpOp P ops Q i K a w := by
  unfold Go.wpOp
  simp only [hi]
  rcases hy with ⟨hw, hv⟩ | ⟨hw, rfl⟩
  · simp only [hw, if_true, Oper.wp]
    have hg := hv w hS
    generalize (execOp a.eval o).run P w = r at hg
    refine .inl ?_
    cases r with
    | ok n w' =>
      cases n with
      | value u => obtain ⟨rfl, rfl⟩ := hg; exact h _ (Below.refl _ _)
      | enter f args =>
        obtain ⟨rfl, hg⟩ := hg
        refine Calls.mono hg fun e w'' he => ?_
        obtain ⟨rfl, hs⟩ := he
        exact h _ hs
      | _ => exact hg.elim
    | halt x w' => exact hg.elim
  · simp only [hw, Bool.false_eq_true, if_false]; exact h w (Below.refl _ _)

/-- The operations of these numbers, one behind the other. -/
def FlowN (P : Program) (ops : Array Oper) (S : World → Prop) (D : Act → Prop) : List Nat → Act → Prop
  | [], a => D a
  | i :: rest, a => ∃ o v, ops[i]? = some o ∧ FlowOp P ops S o v a ∧ FlowN P ops S D rest (a.put o.dst v)

/-- Written out operation by operation. -/
def Flow (P : Program) (ops : Array Oper) (S : World → Prop) (D : Act → Prop) : List Oper → Act → Prop
  | [], a => D a
  | o :: rest, a => ∃ v, FlowOp P ops S o v a ∧ Flow P ops S D rest (a.put o.dst v)

theorem flowN_of {D : Act → Prop} : ∀ (l : List Oper) (k : Nat) (a : Act), (∀ j, j < l.length → ops[k + j]? = l[j]?) → Flow P ops S D l a → FlowN P ops S D (List.range' k l.length) a
  | [], _, _, _, h => h
  | o :: rest, k, a, hk, ⟨v, hv, h⟩ => by
    refine ⟨o, v, by simpa using hk 0 (by simp), hv, ?_⟩
    refine flowN_of rest (k + 1) _ (fun j hj => ?_) h
    have := hk (j + 1) (by simpa using hj)
    simpa [Nat.add_assoc, Nat.add_comm 1 j] using this

/-- No operation waits for a later one; of two of which the later one does not wait for the earlier one, neither touches what the other looks at. -/
def flowOk (ops : Array Oper) : Bool :=
  ops.toList.zipIdx.all fun (oj, j) =>
    (oj.after.all fun e => !Region.binds .any e || decide (e.on < j)) &&
    ((ops.toList.take j).zipIdx.all fun (oi, i) => (oj.after.any fun e => Region.binds .any e && e.on == i) || oi.apart ops oj)

theorem flowOk_spec (h : flowOk ops = true) : (∀ (j : Nat) (oj : Oper) (e : Edge), ops[j]? = some oj → e ∈ oj.after → Region.binds .any e = true → e.on < j) ∧
    (∀ (i j : Nat) (oi oj : Oper), ops[i]? = some oi → ops[j]? = some oj → i < j → (∀ e ∈ oj.after, Region.binds .any e = true → e.on ≠ i) → oi.apart ops oj = true) := by
  unfold flowOk at h
  rw [List.all_eq_true] at h
  have key : ∀ (j : Nat) (oj : Oper), ops[j]? = some oj → (oj, j) ∈ ops.toList.zipIdx := fun j oj hj => by
    rw [List.mem_zipIdx_iff_getElem?]
    simpa using hj
  refine ⟨fun j oj e hj he hb => ?_, fun i j oi oj hi hj hij hno => ?_⟩
  · have h1 := h _ (key j oj hj)
    simp only [Bool.and_eq_true, Array.all_eq_true_iff_forall_mem] at h1
    have h2 := h1.1 e he
    simpa [hb] using h2
  · have h1 := h _ (key j oj hj)
    simp only [Bool.and_eq_true, List.all_eq_true] at h1
    have hm : (oi, i) ∈ (ops.toList.take j).zipIdx := by
      rw [List.mem_zipIdx_iff_getElem?, List.getElem?_take, if_pos hij]
      simpa using hi
    have h2 := h1.2 _ hm
    rw [Bool.or_eq_true] at h2
    rcases h2 with h2 | h2
    · exfalso
      simp only [Array.any_eq_true', Bool.and_eq_true, beq_iff_eq] at h2
      obtain ⟨e, he, hb, heq⟩ := h2
      exact hno e he hb heq
    · exact h2

/-- An operation that is apart from all that stand ahead of it may be moved to the front. -/
theorem flowN_front {D : Act → Prop} (hs : ∀ (j : Nat) (o : Oper) cs b, ops[j]? = some o → o.op ≠ .select cs b) {i : Nat} {oi : Oper} (hi : ops[i]? = some oi) :
    ∀ (xs ys : List Nat) (a : Act), (∀ x ∈ xs, ∀ ox, ops[x]? = some ox → ox.apart ops oi = true) → FlowN P ops S D (xs ++ i :: ys) a →
      ∃ v, FlowOp P ops S oi v a ∧ FlowN P ops S D (xs ++ ys) (a.put oi.dst v)
  | [], ys, a, _, ⟨o, v, ho, hv, h⟩ => by
    rw [hi] at ho
    cases ho
    exact ⟨v, hv, h⟩
  | x :: xs, ys, a, hx, ⟨ox, u, hox, hu, h⟩ => by
    obtain ⟨v, hv, h'⟩ := flowN_front hs hi xs ys _ (fun y hy => hx y (List.mem_cons_of_mem _ hy)) h
    obtain ⟨h1, h2, h3⟩ := Oper.apart_spec (hx x (by simp) ox hox)
    refine ⟨v, hv.of_same (execOp_put oi (fun cs b => hs i oi cs b hi) a ox.dst u h1).symm (wanted_put oi a ox.dst u h1).symm, ox, u, hox, ?_, ?_⟩
    · exact hu.of_same (execOp_put ox (fun cs b => hs x ox cs b hox) a oi.dst v h3) (wanted_put ox a oi.dst v h3)
    · rw [← Act.put_comm a u v h2]
      exact h'

/-- The numbers that have not come up. -/
def leftOf (n : Nat) (listed : Array Bool) : List Nat := (List.range n).filter fun i => !listed.getD i true

theorem leftOf_set {n i : Nat} {listed : Array Bool} (h : listed.getD i true = false) :
    ∃ xs ys, leftOf n listed = xs ++ (if i < n then [i] else []) ++ ys ∧ leftOf n (listed.setIfInBounds i true) = xs ++ ys ∧ ∀ x ∈ xs, x < i := by
  have hlt : i < listed.size := by
    rcases Nat.lt_or_ge i listed.size with h' | h'
    · exact h'
    · simp [Array.getElem?_eq_none h'] at h
  have hset : (listed.setIfInBounds i true).getD i true = true := by simp [hlt]
  induction n with
  | zero => exact ⟨[], [], rfl, rfl, by simp⟩
  | succ n ih =>
    obtain ⟨xs, ys, h1, h2, h3⟩ := ih
    have s1 : ∀ l : Array Bool, leftOf (n + 1) l = leftOf n l ++ (if (!l.getD n true) = true then [n] else []) := fun l => by
      unfold leftOf
      rw [List.range_succ, List.filter_append]
      simp [List.filter_cons]
    rw [s1, s1, h1, h2]
    by_cases hin : i < n
    · refine ⟨xs, ys ++ (if (!listed.getD n true) = true then [n] else []), ?_, ?_, h3⟩
      · rw [if_pos hin, if_pos (show i < n + 1 by omega)]; simp
      · rw [getD_set_ne true (by omega)]; simp
    · by_cases hie : i = n
      · subst hie
        refine ⟨xs ++ ys, [], ?_, ?_, ?_⟩
        · rw [if_neg hin, if_pos (show i < i + 1 by omega), if_pos (by rw [h]; rfl)]; simp
        · rw [if_neg (show ¬ ((!(listed.setIfInBounds i true).getD i true) = true) by rw [hset]; simp)]
        · intro x hx
          have : x ∈ leftOf i (listed.setIfInBounds i true) := by rw [h2]; exact hx
          have := List.mem_filter.1 this
          simpa using this.1
      · refine ⟨xs, ys ++ (if (!listed.getD n true) = true then [n] else []), ?_, ?_, h3⟩
        · rw [if_neg hin, if_neg (show ¬ i < n + 1 by omega)]; simp
        · rw [getD_set_ne true (by omega)]; simp

theorem wpAny_of_flow {D : Act → Prop} (hmono : Stays S) (hs : ∀ (j : Nat) (o : Oper) cs b, ops[j]? = some o → o.op ≠ .select cs b) (hok : flowOk ops = true) (hD : ∀ a w, D a → S w → Q .normal a w) :
    ∀ (fuel : Nat) (listed : Array Bool) (a : Act) (w : World), listed.size = ops.size → (leftOf ops.size listed).length ≤ fuel → S w → FlowN P ops S D (leftOf ops.size listed) a →
      wpAny P .any ops Q fuel listed a w := by
  obtain ⟨hback, hap⟩ := flowOk_spec hok
  -- where something is left something is ready
  have hready : ∀ listed : Array Bool, Region.ready .any ops listed = [] → leftOf ops.size listed = [] := fun listed hr => by
    false_or_by_contra
    rename_i hne
    obtain ⟨k, hk, hmin⟩ : ∃ k, k ∈ leftOf ops.size listed ∧ ∀ x, x < k → x ∉ leftOf ops.size listed := by
      have hex : ∃ k, k ∈ leftOf ops.size listed := List.exists_mem_of_ne_nil _ hne
      obtain ⟨k0, hk0⟩ := hex
      have : ∀ n, ∀ k, k ≤ n → k ∈ leftOf ops.size listed → ∃ k, k ∈ leftOf ops.size listed ∧ ∀ x, x < k → x ∉ leftOf ops.size listed := by
        intro n
        induction n with
        | zero => intro k hk hm; exact ⟨k, hm, fun x hx => by omega⟩
        | succ n ih =>
          intro k hk hm
          by_cases hall : ∀ x, x < k → x ∉ leftOf ops.size listed
          · exact ⟨k, hm, hall⟩
          · simp only [Classical.not_forall] at hall
            obtain ⟨x, hx, hmem⟩ := hall
            exact ih x (by omega) (Classical.not_not.1 hmem)
      exact this k0 k0 (Nat.le_refl _) hk0
    obtain ⟨hkn, hkl⟩ := List.mem_filter.1 hk
    have hkn' : k < ops.size := by simpa using hkn
    have hmem : k ∈ Region.ready .any ops listed := by
      rw [mem_ready]
      refine ⟨by simpa using hkl, ops[k], Array.getElem?_eq_getElem hkn', fun e he hb => ?_⟩
      have hlt := hback k _ e (Array.getElem?_eq_getElem hkn') he hb
      have hno := hmin e.on hlt
      unfold leftOf at hno
      rw [List.mem_filter] at hno
      simp only [List.mem_range, Bool.not_eq_true', not_and, Bool.not_eq_false] at hno
      have ht := hno (by omega)
      by_cases hsz : e.on < listed.size
      · simpa [hsz] using ht
      · -- outside: then k is outside, too
        have : listed.getD k true = true := by simp [Array.getElem?_eq_none (show listed.size ≤ k by omega)]
        simp [this] at hkl
    rw [hr] at hmem
    cases hmem
  intro fuel
  induction fuel with
  | zero =>
    intro listed a w hsz hf hS h
    have hnil : leftOf ops.size listed = [] := List.length_eq_zero_iff.1 (by omega)
    rw [hnil] at h
    refine ⟨?_, hD a w h hS⟩
    rw [List.eq_nil_iff_forall_not_mem]
    intro i hi
    obtain ⟨h0, o, ho, _⟩ := mem_ready.1 hi
    have : i ∈ leftOf ops.size listed := List.mem_filter.2 ⟨List.mem_range.2 (Array.getElem?_eq_some_iff.1 ho).1, by simpa using h0⟩
    rw [hnil] at this
    cases this
  | succ fuel ih =>
    intro listed a w hsz hf hS h
    refine ⟨fun hr => ?_, fun i hi => ?_⟩
    · rw [hready listed hr] at h
      exact hD a w h hS
    · obtain ⟨h0, oi, hoi, hall⟩ := mem_ready.1 hi
      have hin : i < ops.size := (Array.getElem?_eq_some_iff.1 hoi).1
      obtain ⟨xs, ys, h1, h2, h3⟩ := leftOf_set (n := ops.size) h0
      rw [if_pos hin] at h1
      rw [h1, List.append_assoc, List.singleton_append] at h
      have hxs : ∀ x ∈ xs, ∀ ox, ops[x]? = some ox → ox.apart ops oi = true := fun x hx ox hox => by
        refine hap x i ox oi hox hoi (h3 x hx) fun e he hb heq => ?_
        have hl := hall e he hb
        have hxl : x ∈ leftOf ops.size listed := by rw [h1]; simp [hx]
        have hxf := (List.mem_filter.1 hxl).2
        rw [heq] at hl
        have hxs' : x < listed.size := by rw [hsz]; exact (Array.getElem?_eq_some_iff.1 hox).1
        simp [hxs'] at hl hxf
        rw [hl] at hxf
        cases hxf
      obtain ⟨v, hv, h'⟩ := flowN_front hs hoi xs ys a hxs h
      refine hv.wpOp hoi hS fun w' hb => ?_
      refine ih _ _ _ (by simpa using hsz) ?_ (hmono _ _ hS hb) (by rw [h2]; exact h')
      rw [h2]
      rw [h1] at hf
      simp at hf ⊢
      omega

theorem leftOf_none (n : Nat) : leftOf n (Array.replicate n false) = List.range n := by
  unfold leftOf
  rw [List.filter_eq_self]
  intro i hi
  have : i < n := List.mem_range.1 hi
  simp [this]

/-- THE LAW: the region is walked once, in the order of the text; S holds at its beginning, and all that is known of the world behind it is S. -/
theorem wp_region_flow {id : Nat} {a : Act} {w : World} (S : World → Prop) (hm : P.follows .mixedOrders = true) (hs : Region.noSelect ops = true) (hok : flowOk ops = true) (hmono : Stays S)
    (hS : S w.drew) (h : Flow P ops S (fun a' => ∀ w', S w' → Q .normal a' w') ops.toList a) : (Code.region id ops true).wp P Q a w := by
  refine wp_region_any hm (wpAny_of_flow (S := S) (D := fun a' => ∀ w', S w' → Q .normal a' w') hmono (Region.noSelect_spec hs) hok (fun a w hd hw => hd w hw) _ _ _ _ (by simp) ?_ hS ?_)
  · rw [leftOf_none]; simp
  · rw [leftOf_none, List.range_eq_range']
    have := flowN_of (ops := ops) ops.toList 0 a (fun j _ => by simp) h
    simpa using this

/-! ### The steps -/
theorem Flow.value {D : Act → Prop} {o : Oper} {rest : List Oper} {a : Act} {v : Value} (hw : Region.wanted o (yielded ops a.tmps) = true) (hv : ∀ w, S w → (execOp a.eval o).run P w = .ok (.value v) w)
    (h : Flow P ops S D rest (a.put o.dst v)) : Flow P ops S D (o :: rest) a :=
  ⟨v, .inl ⟨hw, fun w hS => by rw [hv w hS]; exact ⟨rfl, rfl⟩⟩, h⟩

theorem Flow.idle {D : Act → Prop} {o : Oper} {rest : List Oper} {a : Act} (hw : Region.wanted o (yielded ops a.tmps) = false)
    (h : Flow P ops S D rest (a.put o.dst undef)) : Flow P ops S D (o :: rest) a :=
  ⟨undef, .inr ⟨hw, rfl⟩, h⟩

theorem Flow.call {D : Act → Prop} {o : Oper} {rest : List Oper} {a : Act} {v : Value} {f : FuncId} {args : Array Value} (hw : Region.wanted o (yielded ops a.tmps) = true)
    (hv : ∀ w, S w → (execOp a.eval o).run P w = .ok (.enter f args) w) (hc : ∀ w, S w → Calls P f args w (fun e w' => e = .returned v ∧ Below w.heap.size w w'))
    (h : Flow P ops S D rest (a.put o.dst v)) : Flow P ops S D (o :: rest) a :=
  ⟨v, .inl ⟨hw, fun w hS => by rw [hv w hS]; exact ⟨rfl, hc w hS⟩⟩, h⟩

/-- Block b of the heap is the object o. -/
def Blk (w : World) (b : Nat) (o : Obj) : Prop := w.heap[b]? = some o
theorem Blk.lt {w : World} {b : Nat} {o : Obj} (h : Blk w b o) : b < w.heap.size := (Array.getElem?_eq_some_iff.1 h).1
theorem Blk.keep {w w' : World} {b : Nat} {o : Obj} (h : Blk w b o) (hb : Below w.heap.size w w') : Blk w' b o := (hb.block b h.lt).trans h
theorem Blk.cell {w : World} {b : Nat} {cs : Array Value} {t : TypeId} {fr : Nat × Nat} (h : Blk w b (.cells cs t fr)) (i : Nat) : w.cell? ⟨b, i, none⟩ = cs[i]? := by
  have h : w.heap[b]? = some (.cells cs t fr) := h
  simp [World.cell?, h]
theorem Blk.new (w : World) (o : Obj) : Blk (w.alloc o) w.heap.size o := by
  show (w.heap.push o)[w.heap.size]? = some o
  simp
theorem Blk.newAt {w : World} {b : Nat} (o : Obj) (h : b = w.heap.size) : Blk (w.alloc o) b o := h ▸ Blk.new w o
theorem Blk.old {w : World} {b : Nat} {o : Obj} (h : Blk w b o) (o' : Obj) : Blk (w.alloc o') b o := by
  have := h.lt
  show (w.heap.push o')[b]? = some o
  rw [Array.getElem?_push, if_neg (by omega)]
  exact h
theorem Blk.draw {w : World} {b : Nat} {o : Obj} (h : Blk w b o) : Blk w.drew b o := h

theorem Blk.frozen {w : World} {b : Nat} {cs : Array Value} {t : TypeId} (h : Blk w b (.cells cs t)) (i : Nat) : w.frozen? ⟨b, i, none⟩ = false := by
  have h : w.heap[b]? = some (.cells cs t (0, 0)) := h
  simp [World.frozen?, h]
theorem Blk.one {w : World} {b : Nat} {v0 : Value} {t : TypeId} (h : Blk w b (.cells #[v0] t)) : w.cell? ⟨b, 0, none⟩ = some v0 ∧ w.frozen? ⟨b, 0, none⟩ = false :=
  ⟨h.cell 0, h.frozen 0⟩
theorem Blk.two {w : World} {b : Nat} {v0 v1 : Value} {t : TypeId} (h : Blk w b (.cells #[v0, v1] t)) :
    w.cell? ⟨b, 0, none⟩ = some v0 ∧ w.cell? ⟨b, 1, none⟩ = some v1 ∧ w.frozen? ⟨b, 0, none⟩ = false ∧ w.frozen? ⟨b, 1, none⟩ = false :=
  ⟨h.cell 0, h.cell 1, h.frozen 0, h.frozen 1⟩
theorem Blk.three {w : World} {b : Nat} {v0 v1 v2 : Value} {t : TypeId} (h : Blk w b (.cells #[v0, v1, v2] t)) :
    w.cell? ⟨b, 0, none⟩ = some v0 ∧ w.cell? ⟨b, 1, none⟩ = some v1 ∧ w.cell? ⟨b, 2, none⟩ = some v2 ∧ w.frozen? ⟨b, 0, none⟩ = false ∧ w.frozen? ⟨b, 1, none⟩ = false ∧ w.frozen? ⟨b, 2, none⟩ = false :=
  ⟨h.cell 0, h.cell 1, h.cell 2, h.frozen 0, h.frozen 1, h.frozen 2⟩
theorem Blk.four {w : World} {b : Nat} {v0 v1 v2 v3 : Value} {t : TypeId} (h : Blk w b (.cells #[v0, v1, v2, v3] t)) :
    w.cell? ⟨b, 0, none⟩ = some v0 ∧ w.cell? ⟨b, 1, none⟩ = some v1 ∧ w.cell? ⟨b, 2, none⟩ = some v2 ∧ w.cell? ⟨b, 3, none⟩ = some v3 ∧
      w.frozen? ⟨b, 0, none⟩ = false ∧ w.frozen? ⟨b, 1, none⟩ = false ∧ w.frozen? ⟨b, 2, none⟩ = false ∧ w.frozen? ⟨b, 3, none⟩ = false :=
  ⟨h.cell 0, h.cell 1, h.cell 2, h.cell 3, h.frozen 0, h.frozen 1, h.frozen 2, h.frozen 3⟩
/-- Behind a call that came behind one (two, three) new blocks. -/
theorem after_one {w w1 : World} {o1 : Obj} (hb : Below (w.alloc o1).heap.size (w.alloc o1) w1) : Below w.heap.size w w1 ∧ w.heap.size + 1 ≤ w1.heap.size ∧ Blk w1 w.heap.size o1 := by
  have h := hb.size
  simp only [World.size_alloc] at h
  exact ⟨((Below.refl _ _).alloc (Nat.le_refl _) _).trans (hb.mono (by simp)), h, (Blk.new _ _).keep hb⟩
theorem after_two {w w1 : World} {o1 o2 : Obj} (hb : Below ((w.alloc o1).alloc o2).heap.size ((w.alloc o1).alloc o2) w1) :
    Below w.heap.size w w1 ∧ w.heap.size + 2 ≤ w1.heap.size ∧ Blk w1 w.heap.size o1 ∧ Blk w1 (w.heap.size + 1) o2 := by
  have h := hb.size
  simp only [World.size_alloc] at h
  exact ⟨(((Below.refl _ _).alloc (Nat.le_refl _) _).alloc (by simp) _).trans (hb.mono (by simp; omega)), by omega, ((Blk.new _ _).old _).keep hb, (Blk.newAt _ (by simp)).keep hb⟩
theorem after_three {w w1 : World} {o1 o2 o3 : Obj} (hb : Below (((w.alloc o1).alloc o2).alloc o3).heap.size (((w.alloc o1).alloc o2).alloc o3) w1) :
    Below w.heap.size w w1 ∧ w.heap.size + 3 ≤ w1.heap.size ∧ Blk w1 w.heap.size o1 ∧ Blk w1 (w.heap.size + 1) o2 ∧ Blk w1 (w.heap.size + 2) o3 := by
  have h := hb.size
  simp only [World.size_alloc] at h
  exact ⟨((((Below.refl _ _).alloc (Nat.le_refl _) _).alloc (by simp) _).alloc (by simp; omega) _).trans (hb.mono (by simp; omega)), by omega, (((Blk.new _ _).old _).old _).keep hb, ((Blk.newAt _ (by simp)).old _).keep hb, (Blk.newAt _ (by simp)).keep hb⟩

/-- Behind a store. -/
theorem Blk.set {w : World} {b : Nat} {cs : Array Value} {t : TypeId} {fr : Nat × Nat} (h : Blk w b (.cells cs t fr)) (i : Nat) (v : Value) : Blk (w.setCell ⟨b, i, none⟩ v) b (.cells (cs.setIfInBounds i v) t fr) := by
  have h : w.heap[b]? = some (.cells cs t fr) := h
  show (w.setCell ⟨b, i, none⟩ v).heap[b]? = _
  simp only [World.setCell, Array.getElem?_modify, if_true, h]
  rfl
theorem Blk.setOther {w : World} {b : Nat} {o : Obj} (h : Blk w b o) {p : Addr} (hp : p.block ≠ b) (v : Value) : Blk (w.setCell p v) b o := by
  have h : w.heap[b]? = some o := h
  show (w.setCell p v).heap[b]? = _
  simp only [World.setCell, Array.getElem?_modify]
  rw [if_neg hp, h]

/-- All old memory as it was, through one call more; with one new block more. -/
theorem thru {w wa wb : World} (h : Below w.heap.size w wa) (hb : Below wa.heap.size wa wb) : Below w.heap.size w wb := h.trans (hb.mono h.size)
theorem more {w wa : World} (h : Below w.heap.size w wa) (o : Obj) : Below w.heap.size w (wa.alloc o) := h.alloc h.size o

theorem Flow.done {D : Act → Prop} {a : Act} (h : D a) : Flow P ops S D [] a := h
end
end Go.Proofs.YtibbinenhmiclaaDoor

namespace Go.Proofs.YtibbinenhmiclaaDoor
open Go.RowKit

/-- Block b is turned into o; all else that was in memory is as it was. -/
structure Turn (b : Nat) (o : Obj) (w w' : World) : Prop where
  os : w'.os = w.os
  tape : w'.tape = w.tape
  output : w'.output = w.output
  size : w.heap.size ≤ w'.heap.size
  blk : Blk w' b o
  other : ∀ k, k < w.heap.size → k ≠ b → w'.heap[k]? = w.heap[k]?
theorem Turn.same {b : Nat} {o : Obj} {w : World} (h : Blk w b o) : Turn b o w w := ⟨rfl, rfl, rfl, Nat.le_refl _, h, fun _ _ _ => rfl⟩
theorem Turn.of {b : Nat} {o : Obj} {w w' : World} (h : Blk w b o) (hb : Below w.heap.size w w') : Turn b o w w' := ⟨hb.os, hb.tape, hb.output, hb.size, h.keep hb, fun k hk _ => hb.block k hk⟩
theorem Turn.below {b B : Nat} {o : Obj} {w w' : World} (h : Turn b o w w') (hB : B ≤ b) (hs : B ≤ w.heap.size) : Below B w w' := ⟨h.os, h.tape, h.output, h.size, fun k hk => h.other k (by omega) (by omega)⟩
theorem Turn.keep {b c : Nat} {o o' : Obj} {w w' : World} (h : Turn b o w w') (hk : Blk w c o') (hne : c ≠ b) : Blk w' c o' := (h.other c hk.lt hne).trans hk
theorem Turn.set {b : Nat} {cs : Array Value} {t : TypeId} {fr : Nat × Nat} {w w' : World} (h : Turn b (.cells cs t fr) w w') (i : Nat) (v : Value) : Turn b (.cells (cs.setIfInBounds i v) t fr) w (w'.setCell ⟨b, i, none⟩ v) :=
  ⟨h.os, h.tape, h.output, by simpa [World.setCell] using h.size, h.blk.set i v, fun k hk hne => by rw [Below.heap_setCell _ _ _ _ hne]; exact h.other k hk hne⟩
theorem Turn.drew {b : Nat} {o : Obj} {w w' : World} (h : Turn b o w w') : Turn b o w w'.drew := ⟨h.os, h.tape, h.output, h.size, h.blk, h.other⟩
theorem Turn.drewN {b : Nat} {o : Obj} {w w' : World} (h : Turn b o w w') (n : Nat) : Turn b o w (w'.drewN n) := ⟨h.os, h.tape, h.output, h.size, h.blk, h.other⟩
theorem Turn.as {b : Nat} {o o' : Obj} {w w' : World} (h : Turn b o w w') (e : o = o') : Turn b o' w w' := e ▸ h
theorem Turn.trans {b : Nat} {o o' : Obj} {w w1 w2 : World} (h : Turn b o w w1) (k : Turn b o' w1 w2) : Turn b o' w w2 :=
  ⟨k.os.trans h.os, k.tape.trans h.tape, k.output.trans h.output, Nat.le_trans h.size k.size, k.blk, fun i hi hne => (k.other i (Nat.lt_of_lt_of_le hi h.size) hne).trans (h.other i hi hne)⟩
theorem Turn.more {b : Nat} {o : Obj} {w w1 w2 : World} (h : Turn b o w w1) (k : Below w1.heap.size w1 w2) : Turn b o w w2 := h.trans (Turn.of h.blk k)
theorem Turn.ahead {b : Nat} {o : Obj} {w w1 w2 : World} (h : Below w.heap.size w w1) (k : Turn b o w1 w2) : Turn b o w w2 :=
  ⟨k.os.trans h.os, k.tape.trans h.tape, k.output.trans h.output, Nat.le_trans h.size k.size, k.blk, fun i hi hne => (k.other i (Nat.lt_of_lt_of_le hi h.size) hne).trans (h.block i hi)⟩
theorem Turn.alloc {b : Nat} {o : Obj} {w w1 : World} (h : Turn b o w w1) (o' : Obj) : Turn b o w (w1.alloc o') := h.more (Go.Proofs.YtibbinenhmiclaaDoor.more (Below.refl _ _) _)

/-- Behind a step that leaves all below B as it was. -/
theorem Turn.upto {b B : Nat} {o : Obj} {w w1 w2 : World} (h : Turn b o w w1) (k : Below B w1 w2) (hB : w.heap.size ≤ B) (hb : b < w.heap.size) : Turn b o w w2 :=
  ⟨k.os.trans h.os, k.tape.trans h.tape, k.output.trans h.output, Nat.le_trans h.size k.size, (k.block b (by omega)).trans h.blk, fun i hi hne => (k.block i (by omega)).trans (h.other i hi hne)⟩
theorem Blk.setRow {w : World} {g : Nat} {cs : Array Value} {t : TypeId} {fr : Nat × Nat} (h : Blk w g (.cells cs t fr)) (cs' : Array Value) : Blk (w.setRow g cs') g (.cells cs' t fr) := setRow_heap w g cs cs' t fr h
theorem Below.row {B g : Nat} {w0 w : World} (hb : Below B w0 w) (hBg : B ≤ g) (cs : Array Value) : Below B w0 (w.setRow g cs) := below_setRow hb hBg cs
theorem Blk.upto {w w' : World} {b B : Nat} {o : Obj} (h : Blk w b o) (k : Below B w w') (hb : b < B) : Blk w' b o := (k.block b hb).trans h
theorem below_row_grown {B : Nat} {w0 w w' : World} {e : TypeId} {size n : Nat} {v : Value} {xs : List Value} (h : Below B w0 w) (hB : B ≤ w.heap.size) (ho : w.ownsRow B e size v n xs) (hg : w.grownBy w' v.ownBlock) : Below B w0 w' :=
  h.grown hg hB (fun k hk => (ho.lt k hk.symm.symm).1)
theorem Turn.grown {b : Nat} {o : Obj} {w w' : World} (h : Turn b o w w') : w.grownBy w' (some b) := ⟨h.os, h.tape, h.output, h.size, fun k hk hne => h.other k hk (fun e => hne (by rw [e]))⟩
theorem ownsRow_turn {w w' : World} {base b size n : Nat} {e : TypeId} {v : Value} {xs : List Value} {o : Obj} (h : w.ownsRow base e size v n xs) (hT : Turn b o w w') (hb : b < base) : w'.ownsRow base e size v n xs := by
  refine h.kept hT.grown ?_
  cases hv : v.ownBlock with
  | none => exact .inl rfl
  | some k =>
    refine .inr fun e => ?_
    have := (h.lt k hv).1
    simp at e
    omega
theorem ownsRow_base {w : World} {base base' size n : Nat} {t : TypeId} {v : Value} {xs : List Value} (h : w.ownsRow base t size v n xs) (hb : base' ≤ base) : w.ownsRow base' t size v n xs := by
  obtain ⟨h1, h2⟩ := h
  refine ⟨h1, ?_⟩
  rcases h2 with h2 | ⟨g, cap, cur, hv, hg, r⟩
  · exact .inl h2
  · exact .inr ⟨g, cap, cur, hv, by omega, r⟩
theorem ownsRow_below {w w' : World} {base size n : Nat} {e : TypeId} {v : Value} {xs : List Value} (h : w.ownsRow base e size v n xs) (hb : Below w.heap.size w w') : w'.ownsRow base e size v n xs := by
  refine h.kept (row := none) ⟨hb.os, hb.tape, hb.output, hb.size, fun k hk _ => hb.block k hk⟩ ?_
  cases v.ownBlock with
  | none => exact .inl rfl
  | some k => exact .inr (by simp)
theorem retb {a b : Bool} (h : a = b) : Ending.returned (.bool a) = Ending.returned (.bool b) := by rw [h]
theorem reti {k : IntKind} {a b : Int} (h : a = b) : Ending.returned (.int k a) = .returned (.int k b) := by rw [h]

/-- The bytes of a list, as values. -/
abbrev bv (l : List Int) : List Value := l.map (Value.int .u8)
/-- Numbers that are bytes. -/
def Bytes (l : List Int) : Prop := ∀ x ∈ l, 0 ≤ x ∧ x ≤ 255
theorem Bytes.nil : Bytes [] := fun x h => by cases h
theorem Bytes.take {l : List Int} (h : Bytes l) (k : Nat) : Bytes (l.take k) := fun x hx => h x (List.mem_of_mem_take hx)
theorem Bytes.drop {l : List Int} (h : Bytes l) (k : Nat) : Bytes (l.drop k) := fun x hx => h x (List.mem_of_mem_drop hx)
theorem Bytes.append {l m : List Int} (h : Bytes l) (h2 : Bytes m) : Bytes (l ++ m) := fun x hx => by
  rcases List.mem_append.1 hx with hx | hx
  · exact h x hx
  · exact h2 x hx
theorem Bytes.at {l : List Int} (h : Bytes l) {i : Nat} (hi : i < l.length) : 0 ≤ l.getD i 0 ∧ l.getD i 0 ≤ 255 := by
  rw [List.getD_eq_getElem?_getD, List.getElem?_eq_getElem hi]
  exact h _ (List.getElem_mem hi)
/-- The slice v holds the bytes l, in a block below M. -/
def HoldsB (w : World) (M : Nat) (v : Value) (l : List Int) : Prop :=
  ∃ a cap, v = .slice a l.length cap ∧ l.length ≤ cap ∧ cap ≤ maxLen ∧ (a = none → cap = 0) ∧ (∀ x, a = some x → 0 < l.length → x.spot = none ∧ x.block < M ∧ x.block < w.heap.size) ∧
    (∀ x i, a = some x → i < l.length → w.cell? ⟨x.block, x.off + i, none⟩ = some (.int .u8 (l.getD i 0))) ∧ Bytes l
theorem HoldsB.nil (w : World) (M : Nat) : HoldsB w M (.slice none 0 0) [] :=
  ⟨none, 0, rfl, Nat.le_refl _, by unfold maxLen; omega, fun _ => rfl, (fun x h => by cases h), (fun x i h => by cases h), Bytes.nil⟩
theorem HoldsB.mono {w : World} {M M' : Nat} {v : Value} {l : List Int} (h : HoldsB w M v l) (hM : M ≤ M') : HoldsB w M' v l := by
  obtain ⟨a, cap, h1, h2, h3, h4, h5, h6, h7⟩ := h
  exact ⟨a, cap, h1, h2, h3, h4, fun x hx h0 => ⟨(h5 x hx h0).1, Nat.lt_of_lt_of_le (h5 x hx h0).2.1 hM, (h5 x hx h0).2.2⟩, h6, h7⟩
theorem HoldsB.frame {w w' : World} {M : Nat} {v : Value} {l : List Int} (h : HoldsB w M v l) (hs : w.heap.size ≤ w'.heap.size) (hf : ∀ k, k < M → k < w.heap.size → w'.heap[k]? = w.heap[k]?) : HoldsB w' M v l := by
  obtain ⟨a, cap, h1, h2, h3, h4, h5, h6, h7⟩ := h
  refine ⟨a, cap, h1, h2, h3, h4, fun x hx h0 => ⟨(h5 x hx h0).1, (h5 x hx h0).2.1, Nat.lt_of_lt_of_le (h5 x hx h0).2.2 hs⟩, fun x i hx hi => ?_, h7⟩
  exact (World.cell?_of_block (w := w) (a := ⟨x.block, x.off + i, none⟩) (hf _ (h5 x hx (by omega)).2.1 (h5 x hx (by omega)).2.2)).trans (h6 x i hx hi)
theorem HoldsB.keep {w w' : World} {M : Nat} {v : Value} {l : List Int} (h : HoldsB w M v l) (hb : Below w.heap.size w w') : HoldsB w' M v l := h.frame hb.size fun k _ hk => hb.block k hk
theorem HoldsB.turn {w w' : World} {M b : Nat} {o : Obj} {v : Value} {l : List Int} (h : HoldsB w M v l) (hb : Turn b o w w') (hM : M ≤ b) : HoldsB w' M v l := h.frame hb.size fun k hk hs => hb.other k hs (by omega)
theorem HoldsB.alloc {w : World} {M : Nat} {v : Value} {l : List Int} (h : HoldsB w M v l) (o : Obj) : HoldsB (w.alloc o) M v l := h.keep (more (Below.refl _ _) _)
theorem HoldsB.drew {w : World} {M : Nat} {v : Value} {l : List Int} (h : HoldsB w M v l) : HoldsB w.drew M v l := h
theorem HoldsB.len {w : World} {M : Nat} {v : Value} {l : List Int} (h : HoldsB w M v l) : l.length ≤ maxLen := by
  obtain ⟨a, cap, h1, h2, h3, _⟩ := h
  omega
theorem HoldsB.bytes {w : World} {M : Nat} {v : Value} {l : List Int} (h : HoldsB w M v l) : Bytes l := by
  obtain ⟨a, cap, h1, h2, h3, h4, h5, h6, h7⟩ := h
  exact h7
/-- One cell. -/
theorem HoldsB.cellAt {w : World} {M : Nat} {a : Option Addr} {n cap : Nat} {l : List Int} (h : HoldsB w M (.slice a n cap) l) {i : Nat} (hi : i < l.length) :
    ∃ b off, a = some ⟨b, off, none⟩ ∧ n = l.length ∧ w.cell? ⟨b, off + i, none⟩ = some (.int .u8 (l.getD i 0)) := by
  obtain ⟨a', cap', h1, h2, h3, h4, h5, h6, h7⟩ := h
  simp only [Value.slice.injEq] at h1
  obtain ⟨rfl, rfl, rfl⟩ := h1
  cases a with
  | none => have := h4 rfl; omega
  | some x =>
    obtain ⟨hs, _⟩ := h5 x rfl (by omega)
    obtain ⟨b, off, spot⟩ := x
    simp only at hs
    subst hs
    exact ⟨b, off, rfl, rfl, h6 _ i rfl hi⟩
theorem HoldsB.news {w : World} {M : Nat} {ad : Addr} {n cap : Nat} {l : List Int} (h : HoldsB w M (.slice (some ad) n cap) l) : ∀ j u, (bv l)[j]? = some u → w.cell? (ad.add j) = some u := by
  obtain ⟨a', cap', h1, h2, h3, h4, h5, h6, h7⟩ := h
  simp only [Value.slice.injEq] at h1
  obtain ⟨rfl, rfl, rfl⟩ := h1
  intro j u hu
  rw [List.getElem?_map] at hu
  by_cases hj : j < l.length
  · rw [List.getElem?_eq_getElem hj] at hu
    simp at hu
    have h := h6 ad j rfl hj
    obtain ⟨hs, _⟩ := h5 ad rfl (by omega)
    have e : ad.add j = ⟨ad.block, ad.off + j, none⟩ := by
      obtain ⟨b, off, spot⟩ := ad
      simp only at hs
      subst hs
      unfold Addr.add
      split <;> simp_all
    rw [e, h, ← hu, List.getD_eq_getElem?_getD, List.getElem?_eq_getElem hj]
    rfl
  · rw [List.getElem?_eq_none (by omega)] at hu
    simp at hu
theorem HoldsB.source {w : World} {M : Nat} {a : Option Addr} {n cap : Nat} {l : List Int} (h : HoldsB w M (.slice a n cap) l) (h0 : 0 < (bv l).length) : ∃ ad, a = some ad ∧ ∀ j u, (bv l)[j]? = some u → w.cell? (ad.add j) = some u := by
  cases a with
  | none =>
    obtain ⟨a', cap', h1, h2, h3, h4, h5, h6, h7⟩ := h
    simp only [Value.slice.injEq] at h1
    have := h4 h1.1.symm
    simp at h0
    omega
  | some ad => exact ⟨ad, rfl, h.news⟩
theorem bv_len (l : List Int) : (bv l).length = l.length * 1 := by simp
theorem bv_one (l : List Int) : ∀ u ∈ bv l, u.oneCell' = true := by
  intro u hu
  obtain ⟨x, _, rfl⟩ := List.mem_map.1 hu
  rfl
theorem info5 : (Tryd.prog.info? 5).map (fun i => (i.zero, i.size, i.bytes)) = some (some (.int .u8 0), 1, 1) := by kernel_rfl
theorem HoldsB.slice {w : World} {M : Nat} {v : Value} {l : List Int} (h : HoldsB w M v l) : ∃ a n cap, v = .slice a n cap ∧ n = l.length := by
  obtain ⟨a, cap, h1, _⟩ := h
  exact ⟨a, _, cap, h1, rfl⟩
/-- A row of the call's own, read as bytes. -/
theorem HoldsB.ofRow {w : World} {base : Nat} {v : Value} {l : List Int} (h7 : Bytes l) (h : w.ownsRow base 5 1 v l.length (bv l)) : HoldsB w w.heap.size v l := by
  rcases h.2 with ⟨rfl, hn⟩ | ⟨g, cap, cur, rfl, hb, hg, h1, h2, h3, h4⟩
  · have hl := List.length_eq_zero_iff.1 hn
    subst hl
    exact HoldsB.nil _ _
  · have hlt := (Array.getElem?_eq_some_iff.1 hg).1
    refine ⟨_, cap, rfl, h1, h2, (fun e => by cases e), (fun x hx _ => by cases hx; exact ⟨rfl, hlt, hlt⟩), (fun x i hx hi => ?_), h7⟩
    cases hx
    rw [cell_of_row w g (0 + i) cur 5 (0, 0) hg]
    have h5 : (bv l)[i]? = some (.int .u8 (l.getD i 0)) := by
      rw [List.getElem?_map, List.getD_eq_getElem?_getD, List.getElem?_eq_getElem hi]
      simp
    rw [← h4, List.getElem?_take, if_pos (by omega)] at h5
    simpa using h5

theorem take_getD {l : List Int} {k i : Nat} (h : i < k) : (l.take k).getD i 0 = l.getD i 0 := by
  simp only [List.getD_eq_getElem?_getD]
  rw [List.getElem?_take, if_pos h]
theorem drop_getD (l : List Int) (k i : Nat) : (l.drop k).getD i 0 = l.getD (k + i) 0 := by
  simp only [List.getD_eq_getElem?_getD, List.getElem?_drop]

theorem at22 (_w : World) (a : Option Addr) (l h m s : Nat) : sliced a l h m s = .slice (if m = l then a else a.map (·.add (l * s))) (h - l) (m - l) := rfl
theorem size5 (w : World) : (sizeOf 5).run Tryd.prog w = .ok 1 w := by kernel_rfl
theorem elem22 : Tryd.prog.elem 131 = 5 := by kernel_rfl
set_option maxRecDepth 100000 in
/-- v[:k]. -/
theorem HoldsB.front {w : World} {M : Nat} {v : Value} {l : List Int} (h : HoldsB w M v l) {k : Nat} (hk : k ≤ l.length) :
    ∃ v', (∀ w1, (Instr.sliceAt 131 v none (some (.int .i64 k)) none).run Tryd.prog w1 = .ok v' w1) ∧ HoldsB w M v' (l.take k) := by
  obtain ⟨a, cap, rfl, h2, h3, h4, h5, h6, h7⟩ := h
  refine ⟨sliced a 0 k cap 1, fun w1 => ?_, ?_⟩
  · rw [run_sliceAt_slice (h := Tryd.underlying131), run_slice_h (ht := Tryd.underlying131) (h0 := by omega) (h2 := by omega), elem22, size5]
    simp [Result.andThen]
  · have hz : sliced a 0 k cap 1 = .slice a (l.take k).length cap := by
      unfold sliced
      rw [List.length_take, Nat.min_eq_left hk]
      simp only [Nat.sub_zero, Nat.zero_mul]
      congr 1
      split
      · rfl
      · cases a <;> simp [Addr.add]
    rw [hz]
    refine ⟨a, cap, rfl, by rw [List.length_take]; omega, h3, h4, fun x hx h0 => h5 x hx (by rw [List.length_take] at h0; omega), fun x i hx hi => ?_, h7.take k⟩
    rw [List.length_take] at hi
    rw [take_getD (by omega)]
    exact h6 x i hx (by omega)
set_option maxRecDepth 100000 in
/-- v[k:]. -/
theorem HoldsB.back {w : World} {M : Nat} {v : Value} {l : List Int} (h : HoldsB w M v l) {k : Nat} (hk : k ≤ l.length) :
    ∃ v', (∀ w1, (Instr.sliceAt 131 v (some (.int .i64 k)) none none).run Tryd.prog w1 = .ok v' w1) ∧ HoldsB w M v' (l.drop k) := by
  obtain ⟨a, cap, rfl, h2, h3, h4, h5, h6, h7⟩ := h
  refine ⟨sliced a k l.length cap 1, fun w1 => ?_, ?_⟩
  · rw [run_sliceAt_slice (h := Tryd.underlying131), run_slice_l (ht := Tryd.underlying131) (h0 := by omega) (h1 := by omega), elem22, size5]
    simp [Result.andThen]
  · by_cases hc : cap = k
    · have hkl : k = l.length := by omega
      refine ⟨a, cap - k, ?_, by rw [List.length_drop]; omega, by omega, fun e => by have := h4 e; omega, fun x hx h0 => h5 x hx (by rw [List.length_drop] at h0; omega), fun x i hx hi => ?_, h7.drop k⟩
      · unfold sliced
        rw [if_pos hc, List.length_drop]
      · rw [List.length_drop] at hi; omega
    · refine ⟨a.map (·.add (k * 1)), cap - k, ?_, by rw [List.length_drop]; omega, by omega, fun e => ?_, fun x hx h0 => ?_, fun x i hx hi => ?_, h7.drop k⟩
      · unfold sliced
        rw [if_neg hc, List.length_drop]
      · cases a with
        | none => have := h4 rfl; omega
        | some y => simp at e
      · cases a with
        | none => simp at hx
        | some y =>
          simp only [Option.map_some, Option.some.injEq] at hx
          subst hx
          have := h5 y rfl (by rw [List.length_drop] at h0; omega)
          unfold Addr.add
          split <;> simp_all
      · cases a with
        | none => simp at hx
        | some y =>
          simp only [Option.map_some, Option.some.injEq] at hx
          subst hx
          rw [List.length_drop] at hi
          rw [drop_getD]
          have := h6 y (k + i) rfl (by omega)
          have e1 : (y.add (k * 1)).block = y.block := by unfold Addr.add; split <;> rfl
          have e2 : (y.add (k * 1)).off = y.off + k := by unfold Addr.add; split <;> simp_all
          rw [e1, e2, Nat.add_assoc]
          exact this

/-- string(v). -/
theorem HoldsB.text {w : World} {M : Nat} {v : Value} {l : List Int} (h : HoldsB w M v l) : (convert 131 9 v).run Tryd.prog w = .ok (.string (strOfNums l)) w := by
  obtain ⟨a, n, cap, rfl, hn⟩ := h.slice
  cases a with
  | none =>
    obtain ⟨a', cap', h1, h2, h3, h4, h5, h6, h7⟩ := h
    simp only [Value.slice.injEq] at h1
    have := h4 h1.1.symm
    obtain rfl : l = [] := List.length_eq_zero_iff.1 (by omega)
    rw [run_convert_bytes_nil w 131 5 Tryd.underlying131 Tryd.underlying5 n cap 9 Tryd.underlying9]
    rfl
  | some ad =>
    obtain ⟨a', cap', h1, h2, h3, h4, h5, h6, h7⟩ := h
    simp only [Value.slice.injEq] at h1
    obtain ⟨rfl, _, _⟩ := h1
    by_cases h0 : l.length = 0
    · obtain rfl : l = [] := List.length_eq_zero_iff.1 h0
      obtain rfl : n = 0 := by simpa using hn
      rw [run_convert_bytes_string w 131 9 5 _ 0 cap Tryd.underlying131 Tryd.underlying5 Tryd.underlying9, run_bytesToString w ad 0 cap [] (by simp [loadCells, loadCellsFrom])]
      rfl
    obtain ⟨hsp, _⟩ := h5 ad rfl (by omega)
    obtain ⟨b, off, spot⟩ := ad
    simp only at hsp
    subst hsp
    exact run_convert_bytes_arg w 131 5 Tryd.underlying131 Tryd.underlying5 b off n cap l hn.symm (fun i hi => h6 _ i rfl (by omega)) 9 Tryd.underlying9

open Go.ChangeShapes Go.WideShapes Go.ChangeAt Go.Deep in
/-- A slice of bytes that came in. -/
theorem row_bytes {H : Type} {enc : TypeId × Value → H} {W : World} {a : Option Addr} {len cap : Nat} {d : DataW H} {p : List MemPlace}
    (k : DataW.Trod enc Tryd.prog W 0 (fun _ => true) true 131 (.slice a len cap) d p) : ∃ l, HoldsB W W.heap.size (.slice a len cap) l := by
  obtain ⟨fuel, hf⟩ := k
  rcases open_slice1 Tryd.underlying131 (by kernel_rfl) hf with ⟨hcs, _⟩ | ⟨x, l, c, m, n, V, D, Pl, hcs, hb, hl, hm, hmm, hx, hi⟩
  · simp [Value.cells] at hcs
    obtain ⟨rfl, rfl, rfl⟩ := hcs
    exact ⟨[], HoldsB.nil _ _⟩
  · simp [Value.cells] at hcs
    obtain ⟨rfl, rfl, rfl⟩ := hcs
    have hmc : m = cap := by simpa using hmm
    have each : ∀ i, i < len → ∃ z : Int, W.cell? (x.add i) = some (.int .u8 z) ∧ 0 ≤ z ∧ z ≤ 255 := fun i him => by
      obtain ⟨hc, ht⟩ := hi i (by omega)
      obtain ⟨u, e0, _, wu⟩ := DataW.trod_int Tryd.underlying5 ht
      simp only [List.cons.injEq, and_true] at e0
      rw [e0] at hc
      have h1 : IntKind.u8.min = 0 := rfl
      have h2 : IntKind.u8.max = 255 := rfl
      simp [Lit.wf, h1, h2] at wu
      exact ⟨u, hc, wu⟩
    obtain ⟨f, hf'⟩ : ∃ f : Nat → Int, ∀ i, i < len → W.cell? (x.add i) = some (.int .u8 (f i)) ∧ 0 ≤ f i ∧ f i ≤ 255 := by
      refine ⟨fun i => if h : i < len then Classical.choose (each i h) else 0, fun i hi => ?_⟩
      simp only [hi, dif_pos]
      exact Classical.choose_spec (each i hi)
    have hsp : 0 < len → x.spot = none ∧ x.block < W.heap.size := fun h0 => by
      have h1 := (hf' 0 h0).1
      have h2 : x.add 0 = x := by simp [Addr.add]
      rw [h2] at h1
      exact ⟨World.cell?_spot h1, World.block_lt_of_cell? W _ h1⟩
    refine ⟨(List.range len).map f, some x, cap, by simp, by simpa using hl, hm, (fun e => by cases e), fun y hy h0 => ?_, fun y i hy hi' => ?_, fun z hz => ?_⟩
    · cases hy
      simp at h0
      exact ⟨(hsp h0).1, (hsp h0).2, (hsp h0).2⟩
    · cases hy
      simp at hi'
      have hs := (hsp (by omega)).1
      have e : x.add i = ⟨x.block, x.off + i, none⟩ := by
        obtain ⟨b, off, spot⟩ := x
        simp only at hs
        subst hs
        unfold Addr.add
        split <;> simp_all
      rw [← e, (hf' i hi').1, List.getD_eq_getElem?_getD, List.getElem?_map, List.getElem?_range hi']
      rfl
    · obtain ⟨i, hi', rfl⟩ := List.mem_map.1 hz
      exact (hf' i (by simpa using hi')).2
end Go.Proofs.YtibbinenhmiclaaDoor

namespace Go.Proofs.YtibbinenhmiclaaDoor

theorem disable (w : World) : (callFunc 81 #[]).run Tryd.prog w = .ok (.value (.tuple #[])) w := run_call_mark0 Tryd.func81 (by kernel_rfl) (by kernel_rfl) (by kernel_rfl) .disable (by kernel_rfl) w
theorem enable (w : World) : (callFunc 83 #[]).run Tryd.prog w = .ok (.value (.tuple #[])) w := run_call_mark0 Tryd.func83 (by kernel_rfl) (by kernel_rfl) (by kernel_rfl) .enable (by kernel_rfl) w
theorem acquire (a : Addr) (w : World) : (callFunc 84 #[.pointer (some a)]).run Tryd.prog w = .ok (.value (.tuple #[])) w := run_call_marked Tryd.func84 (by kernel_rfl) (by kernel_rfl) (by kernel_rfl) .acquire (by kernel_rfl) a w
theorem releaseMerge (a : Addr) (w : World) : (callFunc 86 #[.pointer (some a)]).run Tryd.prog w = .ok (.value (.tuple #[])) w := run_call_marked Tryd.func86 (by kernel_rfl) (by kernel_rfl) (by kernel_rfl) .releaseMerge (by kernel_rfl) a w

theorem store_deferred (a : Addr) (x : Value) (u : FrameMode) (w : World) (hc : w.cell? a = some x) (hz : w.frozen? a = false) :
    CallsD Tryd.prog 65 #[.pointer (some a), .bool true] u w fun e u' w' => u' = u ∧ (e = .returned (.tuple #[]) ∧ w' = w.drew.setCell a (.int .u32 1)) := by
  have hc' : w.drew.cell? a = some x := by go_simp
  have hz' : w.drew.frozen? a = false := by go_simp
  have hst := run_call_store (P := Tryd.prog) Tryd.func74 (by kernel_rfl) (by kernel_rfl) (by kernel_rfl) (by kernel_rfl) (k := .u32) (y := 1) hc' hz'
  go_enter_d Tryd.func65, Tryd.ntmps65
  go_wp2
  go_region_calls
  all_goals (go_end0; exact ⟨rfl, rfl⟩)

set_option maxRecDepth 100000 in
theorem unlock_deferred (a : Addr) (u : FrameMode) (w : World) (hc : w.cell? a = some (.int .i32 1)) (hz : w.frozen? a = false) :
    CallsD Tryd.prog 64 #[.pointer (some a)] u w fun e u' w' => u' = u ∧ (e = .returned (.tuple #[]) ∧ w' = w.setCell a (.int .i32 0)) := by
  have hd := disable
  have he := enable
  have hr := releaseMerge
  have hadd := run_call_add (P := Tryd.prog) Tryd.func87 (by kernel_rfl) (by kernel_rfl) (by kernel_rfl) .i32 (by kernel_rfl) (y := -1) (s := 0) hc hz (by simp [go_sem]; rfl)
  have hcv := run_convert_to_unsafe (P := Tryd.prog) (src := 143) (dst := 147) Tryd.underlying143 Tryd.underlying147 (by kernel_rfl) hc
  go_enter_d Tryd.func64, Tryd.ntmps64
  go_wp2
  go_end0
  go_wp2
  go_end0
  exact ⟨rfl, rfl⟩

set_option maxRecDepth 100000 in
theorem lock_free (a : Addr) (w : World) (hc : w.cell? a = some (.int .i32 0)) (hz : w.frozen? a = false) :
    Calls Tryd.prog 63 #[.pointer (some a)] w fun e w' => e = .returned (.tuple #[]) ∧ w' = w.setCell a (.int .i32 1) := by
  have hd := disable
  have he := enable
  have ha := acquire
  have hcas := run_call_cas_hit (P := Tryd.prog) Tryd.func82 (by kernel_rfl) (by kernel_rfl) (by kernel_rfl) .i32 (by kernel_rfl) (y := 1) hc hz
  have hc' : (w.setCell a (.int .i32 1)).cell? a = some (.int .i32 1) := World.cell?_setCell_same w a _ hc
  have hcv := run_convert_to_unsafe (P := Tryd.prog) (src := 143) (dst := 147) Tryd.underlying143 Tryd.underlying147 (by kernel_rfl) hc'
  go_enter Tryd.func63, Tryd.ntmps63
  go_wp2
  first | go_end0 | (simp only [Exit.inBlock, Exit.then]; refine bodyPost_ret (results_none rfl _ _ _) rfl ?_) | refine bodyPost_ret (results_none rfl _ _ _) rfl ?_
  go_wp2
  go_end0
  exact ⟨rfl, rfl⟩
set_option maxRecDepth 100000 in
set_option maxHeartbeats 1600000 in
/-- doSlow, not yet done and the lock free, whatever function is handed to it. -/
theorem slow_any (K : Nat) (caps : Array Value) (hK : ∀ w, (callFunc K caps).run Tryd.prog w = .ok (.enter K caps) w) (b off : Nat) (w : World) (F : World → Prop)
    (h0 : w.cell? ⟨b, off, none⟩ = some (.int .u32 0)) (h1 : w.cell? ⟨b, off + 1, none⟩ = some (.int .i32 0))
    (_f0 : w.frozen? ⟨b, off, none⟩ = false) (f1 : w.frozen? ⟨b, off + 1, none⟩ = false)
    (hc : Calls Tryd.prog K caps (w.setCell ⟨b, off + 1, none⟩ (.int .i32 1)) fun e w1 => e = .returned (.tuple #[]) ∧ F w1)
    (hF : ∀ w1, F w1 → w1.cell? ⟨b, off, none⟩ = some (.int .u32 0) ∧ w1.cell? ⟨b, off + 1, none⟩ = some (.int .i32 1) ∧ w1.frozen? ⟨b, off, none⟩ = false ∧ w1.frozen? ⟨b, off + 1, none⟩ = false) :
    Calls Tryd.prog 53 #[.pointer (some ⟨b, off, none⟩), .func (.func K) #[] caps] w fun e w' => e = .returned (.tuple #[]) ∧
      ∃ w1, F w1 ∧ w' = (w1.drew.setCell ⟨b, off, none⟩ (.int .u32 1)).setCell ⟨b, off + 1, none⟩ (.int .i32 0) := by
  have hl := run_call_load (P := Tryd.prog) Tryd.func62 (by kernel_rfl) (by kernel_rfl) (by kernel_rfl) .u32 (by kernel_rfl) (w := w.setCell ⟨b, off + 1, none⟩ (.int .i32 1)) (a := ⟨b, off, none⟩) (x := 0) ((World.cell?_setCell_other _ ⟨b, off + 1, none⟩ ⟨b, off, none⟩ _ (by simp)).trans h0)
  have hnot : ∀ (x : Bool) (w : World), (Op.unary .not (.bool x)).run Tryd.prog w = .ok (.bool (!x)) w := fun _ _ => rfl
  go_enter_defers Tryd.func53, Tryd.ntmps53
  go_wp2_with (first | (go_at_call 63; refine (lock_free ⟨b, off + 1, none⟩ _ (by go_simp) (by go_simp)).mono ?_; rintro e w' ⟨rfl, rfl⟩) | (go_at_call 52; go_in))
  refine hc.mono ?_
  rintro e w1 ⟨rfl, hw1⟩
  obtain ⟨q0, q1, q2, q3⟩ := hF w1 hw1
  go_wp2
  refine leaves_cons (f := 65) (args := #[.pointer (some ⟨b, off, none⟩), .bool true]) (by simp) (by simp [go_sem]) ?_
  refine (store_deferred ⟨b, off, none⟩ (.int .u32 0) .returning _ q0 q2).mono ?_
  rintro e u' w'' ⟨rfl, rfl, rfl⟩
  refine leaves_cons (f := 64) (args := #[.pointer (some ⟨b, off + 1, none⟩)]) (by simp [settle]) (by simp [go_sem]) ?_
  refine (unlock_deferred ⟨b, off + 1, none⟩ _ _ ?_ (by simp [q3])).mono ?_
  · refine (World.cell?_setCell_other _ ⟨b, off, none⟩ ⟨b, off + 1, none⟩ _ (by simp)).trans ?_
    rw [World.cell?_drew]
    exact q1
  rintro e u' w'' ⟨rfl, rfl, rfl⟩
  simp [Leaves, settle, results, Tryd.results53]
  exact ⟨w1, hw1, rfl⟩
set_option maxRecDepth 100000 in
set_option maxHeartbeats 1600000 in
/-- Do, not yet done, the lock free. -/
theorem do_first (K : Nat) (caps : Array Value) (hK : ∀ w, (callFunc K caps).run Tryd.prog w = .ok (.enter K caps) w) (b off : Nat) (w : World) (F : World → Prop)
    (h0 : w.cell? ⟨b, off, none⟩ = some (.int .u32 0)) (h1 : w.cell? ⟨b, off + 1, none⟩ = some (.int .i32 0))
    (f0 : w.frozen? ⟨b, off, none⟩ = false) (f1 : w.frozen? ⟨b, off + 1, none⟩ = false)
    (hc : Calls Tryd.prog K caps (w.setCell ⟨b, off + 1, none⟩ (.int .i32 1)) fun e w1 => e = .returned (.tuple #[]) ∧ F w1)
    (hF : ∀ w1, F w1 → w1.cell? ⟨b, off, none⟩ = some (.int .u32 0) ∧ w1.cell? ⟨b, off + 1, none⟩ = some (.int .i32 1) ∧ w1.frozen? ⟨b, off, none⟩ = false ∧ w1.frozen? ⟨b, off + 1, none⟩ = false) :
    Calls Tryd.prog 44 #[.pointer (some ⟨b, off, none⟩), .func (.func K) #[] caps] w fun e w' => e = .returned (.tuple #[]) ∧
      ∃ w1, F w1 ∧ w' = (w1.drew.setCell ⟨b, off, none⟩ (.int .u32 1)).setCell ⟨b, off + 1, none⟩ (.int .i32 0) := by
  have hl := run_call_load (P := Tryd.prog) Tryd.func62 (by kernel_rfl) (by kernel_rfl) (by kernel_rfl) .u32 (by kernel_rfl) h0
  have hnot : ∀ (x : Bool) (w : World), (Op.unary .not (.bool x)).run Tryd.prog w = .ok (.bool (!x)) w := fun _ _ => rfl
  go_enter Tryd.func44, Tryd.ntmps44
  go_wp2_with (first | (go_at_call 53; refine (slow_any K caps hK b off w F h0 h1 f0 f1 hc hF).mono ?_; rintro e w' ⟨rfl, hw⟩) | (go_at_call 52; go_in))
  go_end0
  exact ⟨rfl, hw⟩
/-- Do, done already: the function is not called. -/
theorem do_done (a : Addr) (d : Int) (hd : ¬ d = 0) (fv : Value) (w : World) (h0 : w.cell? a = some (.int .u32 d)) :
    Calls Tryd.prog 44 #[.pointer (some a), fv] w fun e w' => e = .returned (.tuple #[]) ∧ w' = w := by
  have hl := run_call_load (P := Tryd.prog) Tryd.func62 (by kernel_rfl) (by kernel_rfl) (by kernel_rfl) .u32 (by kernel_rfl) h0
  have hnot : ∀ (x : Bool) (w : World), (Op.unary .not (.bool x)).run Tryd.prog w = .ok (.bool (!x)) w := fun _ _ => rfl
  have hd' : (d != 0) = true := by simp [hd]
  go_enter Tryd.func44, Tryd.ntmps44
  go_wp2
  go_end0
  exact ⟨rfl, rfl⟩
end Go.Proofs.YtibbinenhmiclaaDoor

namespace Go.Proofs.YtibbinenhmiclaaDoor
open Go.RowKit

abbrev w32 (x : Int) : Int := IntKind.u32.wrap x
theorem w32_mod (x : Int) : IntKind.u32.wrap x = x % 4294967296 := IntKind.wrap_u32' x
/-- A number that 32 bits hold. -/
def U32 (x : Int) : Prop := 0 ≤ x ∧ x < 4294967296
theorem U32.wrap (x : Int) : U32 (w32 x) := by unfold U32 w32; rw [w32_mod]; omega
theorem bits_wrap (op : BinOp) (x y : Int) : U32 (bits op .u32 x y) := by unfold bits; exact U32.wrap _
theorem or_comm32 (x y : Int) : bits .or .u32 x y = bits .or .u32 y x := by
  unfold bits
  simp only [BitVec.or_comm]
/-- x turned by n bits to the right. -/
def rot (x : Int) (n : Nat) : Int := bits .or .u32 (x / 2 ^ n) (w32 (x * 2 ^ (32 - n)))
theorem rot_u (x : Int) (n : Nat) : U32 (rot x n) := bits_wrap _ _ _
def sm0 (x : Int) : Int := bits .xor .u32 (bits .xor .u32 (rot x 7) (rot x 18)) (x / 8)
def sm1 (x : Int) : Int := bits .xor .u32 (bits .xor .u32 (rot x 17) (rot x 19)) (x / 1024)
def bg0 (x : Int) : Int := bits .xor .u32 (bits .xor .u32 (rot x 2) (rot x 13)) (rot x 22)
def bg1 (x : Int) : Int := bits .xor .u32 (bits .xor .u32 (rot x 6) (rot x 11)) (rot x 25)
def inv (x : Int) : Int := bits .xor .u32 4294967295 x
def chs (e f g : Int) : Int := bits .xor .u32 (bits .and .u32 e f) (bits .and .u32 (inv e) g)
def maj (a b c : Int) : Int := bits .xor .u32 (bits .xor .u32 (bits .and .u32 a b) (bits .and .u32 a c)) (bits .and .u32 b c)
/-- The eight numbers of a state. -/
structure St where
  (a b c d e f g h : Int)
deriving DecidableEq
def St.list (s : St) : List Int := [s.a, s.b, s.c, s.d, s.e, s.f, s.g, s.h]
def step1 (s : St) (k w : Int) : Int := w32 (w32 (w32 (w32 (s.h + bg1 s.e) + chs s.e s.f s.g) + k) + w)
def step2 (s : St) : Int := w32 (bg0 s.a + maj s.a s.b s.c)
def round (s : St) (k w : Int) : St := ⟨w32 (step1 s k w + step2 s), s.a, s.b, s.c, w32 (s.d + step1 s k w), s.e, s.f, s.g⟩
def kon : List Int := [
  0x428a2f98, 0x71374491, 0xb5c0fbcf, 0xe9b5dba5, 0x3956c25b, 0x59f111f1, 0x923f82a4, 0xab1c5ed5,
  0xd807aa98, 0x12835b01, 0x243185be, 0x550c7dc3, 0x72be5d74, 0x80deb1fe, 0x9bdc06a7, 0xc19bf174,
  0xe49b69c1, 0xefbe4786, 0x0fc19dc6, 0x240ca1cc, 0x2de92c6f, 0x4a7484aa, 0x5cb0a9dc, 0x76f988da,
  0x983e5152, 0xa831c66d, 0xb00327c8, 0xbf597fc7, 0xc6e00bf3, 0xd5a79147, 0x06ca6351, 0x14292967,
  0x27b70a85, 0x2e1b2138, 0x4d2c6dfc, 0x53380d13, 0x650a7354, 0x766a0abb, 0x81c2c92e, 0x92722c85,
  0xa2bfe8a1, 0xa81a664b, 0xc24b8b70, 0xc76c51a3, 0xd192e819, 0xd6990624, 0xf40e3585, 0x106aa070,
  0x19a4c116, 0x1e376c08, 0x2748774c, 0x34b0bcb5, 0x391c0cb3, 0x4ed8aa4a, 0x5b9cca4f, 0x682e6ff3,
  0x748f82ee, 0x78a5636f, 0x84c87814, 0x8cc70208, 0x90befffa, 0xa4506ceb, 0xbef9a3f7, 0xc67178f2]
theorem kon_len : kon.length = 64 := rfl
def first : St := ⟨0x6a09e667, 0xbb67ae85, 0x3c6ef372, 0xa54ff53a, 0x510e527f, 0x9b05688c, 0x1f83d9ab, 0x5be0cd19⟩
def word (l : List Int) (t : Nat) : Int := ((l.getD (4 * t) 0 * 256 + l.getD (4 * t + 1) 0) * 256 + l.getD (4 * t + 2) 0) * 256 + l.getD (4 * t + 3) 0
/-- The words of a block, and n that the standard makes of them. -/
def sched (l : List Int) : Nat → List Int
  | 0 => (List.range 16).map (word l)
  | n + 1 => sched l n ++ [w32 (w32 (w32 ((sched l n).getD n 0 + sm0 ((sched l n).getD (n + 1) 0)) + (sched l n).getD (n + 9) 0) + sm1 ((sched l n).getD (n + 14) 0))]
theorem sched_len (l : List Int) (n : Nat) : (sched l n).length = 16 + n := by
  induction n with
  | zero => simp [sched]
  | succ n ih => simp [sched, ih]; omega
def rnds (s : St) (ws : List Int) : Nat → St
  | 0 => s
  | n + 1 => round (rnds s ws n) (kon.getD n 0) (ws.getD n 0)
def St.add (x y : St) : St := ⟨w32 (x.a + y.a), w32 (x.b + y.b), w32 (x.c + y.c), w32 (x.d + y.d), w32 (x.e + y.e), w32 (x.f + y.f), w32 (x.g + y.g), w32 (x.h + y.h)⟩
/-- One block of 64 bytes taken in. -/
def block (s : St) (l : List Int) : St := s.add (rnds s (sched l 48) 64)
/-- n blocks of l. -/
def absorb (l : List Int) : Nat → St
  | 0 => first
  | n + 1 => block (absorb l n) ((l.drop (64 * n)).take 64)
/-- A number below 2^64 as eight bytes. -/
def be64 (n : Int) : List Int := (List.range 8).map fun i => n / 256 ^ (7 - i) % 256
def zeros (n : Nat) : Nat := (119 - n % 64) % 64
def tail (n : Nat) : List Int := [128] ++ List.replicate (zeros n) 0 ++ be64 (8 * (n : Int) % 18446744073709551616)
def pad (l : List Int) : List Int := l ++ tail l.length
def blocks (n : Nat) : Nat := if n % 64 ≤ 55 then n / 64 + 1 else n / 64 + 2
theorem tail_len (n : Nat) : (tail n).length = zeros n + 9 := by simp [tail, be64]
theorem pad_len (l : List Int) : (pad l).length = 64 * blocks l.length := by
  unfold pad blocks
  rw [List.length_append, tail_len]
  unfold zeros
  split <;> omega
def sumSt (l : List Int) : St := absorb (pad l) (blocks l.length)
/-- A word's bytes. -/
def be32 (n : Int) : List Int := [n / 16777216 % 256, n / 65536 % 256, n / 256 % 256, n % 256]
/-- A state's bytes. -/
def St.bytes (s : St) : List Int := be32 s.a ++ be32 s.b ++ be32 s.c ++ be32 s.d ++ be32 s.e ++ be32 s.f ++ be32 s.g ++ be32 s.h
/-- The sum of bytes. -/
def digest (l : List Int) : List Int := (sumSt l).bytes
theorem be32_len (n : Int) : (be32 n).length = 4 := rfl
theorem bytes_len (s : St) : s.bytes.length = 32 := by simp [St.bytes, be32]
theorem digest_len (l : List Int) : (digest l).length = 32 := bytes_len _
/-- The first n blocks of a text hang on these alone. -/
theorem absorb_congr {l m : List Int} (n : Nat) (h : l.take (64 * n) = m.take (64 * n)) : absorb l n = absorb m n := by
  induction n with
  | zero => rfl
  | succ n ih =>
    unfold absorb
    have h1 : l.take (64 * n) = m.take (64 * n) := by
      have := congrArg (List.take (64 * n)) h
      simpa [List.take_take, Nat.min_eq_left (show 64 * n ≤ 64 * (n + 1) by omega)] using this
    have h2 : (l.drop (64 * n)).take 64 = (m.drop (64 * n)).take 64 := by
      have := congrArg (List.drop (64 * n)) h
      rw [List.drop_take, List.drop_take] at this
      simpa [show 64 * (n + 1) - 64 * n = 64 by omega] using this
    rw [ih h1, h2]
theorem absorb_append {l m : List Int} (n : Nat) (h : 64 * n ≤ l.length) : absorb (l ++ m) n = absorb l n :=
  absorb_congr n (by rw [List.take_append_of_le_length h])
end Go.Proofs.YtibbinenhmiclaaDoor

namespace Go.Proofs.YtibbinenhmiclaaDoor
open Go.RowKit

theorem and31 (n : Nat) (h1 : 1 ≤ n) (h2 : n ≤ 31) : bits .and .u64 (IntKind.u64.wrap (-(n : Int))) 31 = ((32 - n : Nat) : Int) := by
  have e : IntKind.u64.wrap (-(n : Int)) = ((18446744073709551616 - n : Nat) : Int) := by
    simp [IntKind.wrap, IntKind.bits, IntKind.signed]
    omega
  rw [e]
  have := u64_and_nat (18446744073709551616 - n) 31 (by omega) (by omega)
  rw [show ((31 : Nat) : Int) = (31 : Int) from rfl] at this
  rw [this, nat_mask5]
  congr 1
  omega
set_option maxHeartbeats 400000 in
/-- math/bits.RotateLeft32 by -n. -/
theorem rotl (x : Int) (n : Nat) (k : Int) (w : World) (hk : k = -(n : Int)) (h1 : 1 ≤ n) (h2 : n ≤ 31) :
    Calls Tryd.prog 108 #[.int .u32 x, .int .i64 k] w fun r w' => r = .returned (.int .u32 (rot x n)) ∧ w = w' := by
  have ha := and31 n h1 h2
  rw [← hk] at ha
  obtain ⟨m, hm⟩ : ∃ m, m = 32 - n := ⟨_, rfl⟩
  have Hm := Lib.hid hm
  have Hk := Lib.hid hk
  have b1 : 1 ≤ m := by omega
  have b2 : m ≤ 31 := by omega
  rw [← hm] at ha
  clear hm hk
  go_enter Tryd.func108, Tryd.ntmps108
  go_wp2_with fail
  go_ret
  refine ⟨?_, rfl⟩
  have e1 := Hm.out
  have e2 : n = 32 - m := by omega
  subst e2
  unfold rot w32
  rw [or_comm32, show 32 - (32 - m) = m by omega]
  first
  | rfl
  | trace_state
end Go.Proofs.YtibbinenhmiclaaDoor
