/-
  A law of this seat's own: a region that draws its order, each of whose operations answers one and the same value in every world that meets a condition S, and leaves a world that meets S, comes to one and the same frame in whatever order; so it is walked once, in the order of the text.
-/
import Derived.Orders
import Derived.Below
import Derived.WalkKit
namespace Go.Proofs.YtcppmkblllappaaDoor
open Go.RowKit

section
variable {P : Program} {ops : Array Oper} {Q : Exit → Act → World → Prop} {S : World → Prop}

/-- What a run, begun in world w, has come to: the value v; all that was in memory is as it was. -/
def GoodRun (P : Program) (w : World) (v : Value) : Result Next → Prop
  | .ok (.value u) w' => u = v ∧ w' = w
  | .ok (.enter f args) w' => w' = w ∧ Calls P f args w (fun e w'' => e = .returned v ∧ Below w.heap.size w w'')
  | _ => False

/-- A condition that stays where all that was in memory stays. -/
def Stays (S : World → Prop) : Prop := ∀ w w', S w → Below w.heap.size w w' → S w'

/-- In state a, from every world that meets S, the operation answers v. -/
def FlowOp (P : Program) (ops : Array Oper) (S : World → Prop) (o : Oper) (v : Value) (a : Act) : Prop :=
  (Region.wanted o (yielded ops a.tmps) = true ∧ ∀ w, S w → GoodRun P w v ((execOp a.eval o).run P w)) ∨
  (Region.wanted o (yielded ops a.tmps) = false ∧ v = undef)

theorem FlowOp.of_same {o : Oper} {v : Value} {a a' : Act} (hy : FlowOp P ops S o v a) (he : execOp a'.eval o = execOp a.eval o)
    (hw : Region.wanted o (yielded ops a'.tmps) = Region.wanted o (yielded ops a.tmps)) : FlowOp P ops S o v a' := by
  unfold FlowOp at *
  rw [he, hw]
  exact hy

theorem FlowOp.wpOp {i : Nat} {o : Oper} {v : Value} {a : Act} (hi : ops[i]? = some o) (hy : FlowOp P ops S o v a)
    {K : Act → World → Prop} {w : World} (hS : S w) (h : ∀ w', Below w.heap.size w w' → K (a.put o.dst v) w') : wpOp P ops Q i K a w := by
  unfold Go.wpOp
  simp only [hi]
  rcases hy with ⟨hw, hv⟩ | ⟨hw, rfl⟩
  · simp only [hw, if_true, Oper.wp]
    have hg := hv w hS
    generalize (execOp a.eval o).run P w = r at hg
    refine .inl ?_
    cases r with
    | ok n w' =>
      cases n with
      | value u => obtain ⟨rfl, rfl⟩ := hg; exact h _ (Below.refl _ _)
      | enter f args =>
        obtain ⟨rfl, hg⟩ := hg
        refine Calls.mono hg fun e w'' he => ?_
        obtain ⟨rfl, hs⟩ := he
        exact h _ hs
      | _ => exact hg.elim
    | halt x w' => exact hg.elim
  · simp only [hw, Bool.false_eq_true, if_false]; exact h w (Below.refl _ _)

/-- The operations of these numbers, one behind the other. -/
def FlowN (P : Program) (ops : Array Oper) (S : World → Prop) (D : Act → Prop) : List Nat → Act → Prop
  | [], a => D a
  | i :: rest, a => ∃ o v, ops[i]? = some o ∧ FlowOp P ops S o v a ∧ FlowN P ops S D rest (a.put o.dst v)

/-- Written out operation by operation. -/
def Flow (P : Program) (ops : Array Oper) (S : World → Prop) (D : Act → Prop) : List Oper → Act → Prop
  | [], a => D a
  | o :: rest, a => ∃ v, FlowOp P ops S o v a ∧ Flow P ops S D rest (a.put o.dst v)

theorem flowN_of {D : Act → Prop} : ∀ (l : List Oper) (k : Nat) (a : Act), (∀ j, j < l.length → ops[k + j]? = l[j]?) → Flow P ops S D l a → FlowN P ops S D (List.range' k l.length) a
  | [], _, _, _, h => h
  | o :: rest, k, a, hk, ⟨v, hv, h⟩ => by
    refine ⟨o, v, by simpa using hk 0 (by simp), hv, ?_⟩
    refine flowN_of rest (k + 1) _ (fun j hj => ?_) h
    have := hk (j + 1) (by simpa using hj)
    simpa [Nat.add_assoc, Nat.add_comm 1 j] using this

/-- No operation waits for a later one; of two of which the later one does not wait for the earlier one, neither touches what the other looks at. -/
def flowOk (ops : Array Oper) : Bool :=
  ops.toList.zipIdx.all fun (oj, j) =>
    (oj.after.all fun e => !Region.binds .any e || decide (e.on < j)) &&
    ((ops.toList.take j).zipIdx.all fun (oi, i) => (oj.after.any fun e => Region.binds .any e && e.on == i) || oi.apart ops oj)

theorem flowOk_spec (h : flowOk ops = true) : (∀ (j : Nat) (oj : Oper) (e : Edge), ops[j]? = some oj → e ∈ oj.after → Region.binds .any e = true → e.on < j) ∧
    (∀ (i j : Nat) (oi oj : Oper), ops[i]? = some oi → ops[j]? = some oj → i < j → (∀ e ∈ oj.after, Region.binds .any e = true → e.on ≠ i) → oi.apart ops oj = true) := by
  unfold flowOk at h
  rw [List.all_eq_true] at h
  have key : ∀ (j : Nat) (oj : Oper), ops[j]? = some oj → (oj, j) ∈ ops.toList.zipIdx := fun j oj hj => by
    rw [List.mem_zipIdx_iff_getElem?]
    simpa using hj
  refine ⟨fun j oj e hj he hb => ?_, fun i j oi oj hi hj hij hno => ?_⟩
  · have h1 := h _ (key j oj hj)
    simp only [Bool.and_eq_true, Array.all_eq_true_iff_forall_mem] at h1
    have h2 := h1.1 e he
    simpa [hb] using h2
  · have h1 := h _ (key j oj hj)
    simp only [Bool.and_eq_true, List.all_eq_true] at h1
    have hm : (oi, i) ∈ (ops.toList.take j).zipIdx := by
      rw [List.mem_zipIdx_iff_getElem?, List.getElem?_take, if_pos hij]
      simpa using hi
    have h2 := h1.2 _ hm
    rw [Bool.or_eq_true] at h2
    rcases h2 with h2 | h2
    · exfalso
      simp only [Array.any_eq_true', Bool.and_eq_true, beq_iff_eq] at h2
      obtain ⟨e, he, hb, heq⟩ := h2
      exact hno e he hb heq
    · exact h2

/-- An operation that is apart from all that stand ahead of it may be moved to the front. -/
theorem flowN_front {D : Act → Prop} (hs : ∀ (j : Nat) (o : Oper) cs b, ops[j]? = some o → o.op ≠ .select cs b) {i : Nat} {oi : Oper} (hi : ops[i]? = some oi) :
    ∀ (xs ys : List Nat) (a : Act), (∀ x ∈ xs, ∀ ox, ops[x]? = some ox → ox.apart ops oi = true) → FlowN P ops S D (xs ++ i :: ys) a →
      ∃ v, FlowOp P ops S oi v a ∧ FlowN P ops S D (xs ++ ys) (a.put oi.dst v)
  | [], ys, a, _, ⟨o, v, ho, hv, h⟩ => by
    rw [hi] at ho
    cases ho
    exact ⟨v, hv, h⟩
  | x :: xs, ys, a, hx, ⟨ox, u, hox, hu, h⟩ => by
    obtain ⟨v, hv, h'⟩ := flowN_front hs hi xs ys _ (fun y hy => hx y (List.mem_cons_of_mem _ hy)) h
    obtain ⟨h1, h2, h3⟩ := Oper.apart_spec (hx x (by simp) ox hox)
    refine ⟨v, hv.of_same (execOp_put oi (fun cs b => hs i oi cs b hi) a ox.dst u h1).symm (wanted_put oi a ox.dst u h1).symm, ox, u, hox, ?_, ?_⟩
    · exact hu.of_same (execOp_put ox (fun cs b => hs x ox cs b hox) a oi.dst v h3) (wanted_put ox a oi.dst v h3)
    · rw [← Act.put_comm a u v h2]
      exact h'

/-- The numbers that have not come up. -/
def leftOf (n : Nat) (listed : Array Bool) : List Nat := (List.range n).filter fun i => !listed.getD i true

theorem leftOf_set {n i : Nat} {listed : Array Bool} (h : listed.getD i true = false) :
    ∃ xs ys, leftOf n listed = xs ++ (if i < n then [i] else []) ++ ys ∧ leftOf n (listed.setIfInBounds i true) = xs ++ ys ∧ ∀ x ∈ xs, x < i := by
  have hlt : i < listed.size := by
    rcases Nat.lt_or_ge i listed.size with h' | h'
    · exact h'
    · simp [Array.getElem?_eq_none h'] at h
  have hset : (listed.setIfInBounds i true).getD i true = true := by simp [hlt]
  induction n with
  | zero => exact ⟨[], [], rfl, rfl, by simp⟩
  | succ n ih =>
    obtain ⟨xs, ys, h1, h2, h3⟩ := ih
    have s1 : ∀ l : Array Bool, leftOf (n + 1) l = leftOf n l ++ (if (!l.getD n true) = true then [n] else []) := fun l => by
      unfold leftOf
      rw [List.range_succ, List.filter_append]
      simp [List.filter_cons]
    rw [s1, s1, h1, h2]
    by_cases hin : i < n
    · refine ⟨xs, ys ++ (if (!listed.getD n true) = true then [n] else []), ?_, ?_, h3⟩
      · rw [if_pos hin, if_pos (show i < n + 1 by omega)]; simp
      · rw [getD_set_ne true (by omega)]; simp
    · by_cases hie : i = n
      · subst hie
        refine ⟨xs ++ ys, [], ?_, ?_, ?_⟩
        · rw [if_neg hin, if_pos (show i < i + 1 by omega), if_pos (by rw [h]; rfl)]; simp
        · rw [if_neg (show ¬ ((!(listed.setIfInBounds i true).getD i true) = true) by rw [hset]; simp)]
        · intro x hx
          have : x ∈ leftOf i (listed.setIfInBounds i true) := by rw [h2]; exact hx
          have := List.mem_filter.1 this
          simpa using this.1
      · refine ⟨xs, ys ++ (if (!listed.getD n true) = true then [n] else []), ?_, ?_, h3⟩
        · rw [if_neg hin, if_neg (show ¬ i < n + 1 by omega)]; simp
        · rw [getD_set_ne true (by omega)]; simp

theorem wpAny_of_flow {D : Act → Prop} (hmono : Stays S) (hs : ∀ (j : Nat) (o : Oper) cs b, ops[j]? = some o → o.op ≠ .select cs b) (hok : flowOk ops = true) (hD : ∀ a w, D a → S w → Q .normal a w) :
    ∀ (fuel : Nat) (listed : Array Bool) (a : Act) (w : World), listed.size = ops.size → (leftOf ops.size listed).length ≤ fuel → S w → FlowN P ops S D (leftOf ops.size listed) a →
      wpAny P .any ops Q fuel listed a w := by
  obtain ⟨hback, hap⟩ := flowOk_spec hok
  -- where something is left something is ready
  have hready : ∀ listed : Array Bool, Region.ready .any ops listed = [] → leftOf ops.size listed = [] := fun listed hr => by
    false_or_by_contra
    rename_i hne
    obtain ⟨k, hk, hmin⟩ : ∃ k, k ∈ leftOf ops.size listed ∧ ∀ x, x < k → x ∉ leftOf ops.size listed := by
      have hex : ∃ k, k ∈ leftOf ops.size listed := List.exists_mem_of_ne_nil _ hne
      obtain ⟨k0, hk0⟩ := hex
      have : ∀ n, ∀ k, k ≤ n → k ∈ leftOf ops.size listed → ∃ k, k ∈ leftOf ops.size listed ∧ ∀ x, x < k → x ∉ leftOf ops.size listed := by
        intro n
        induction n with
        | zero => intro k hk hm; exact ⟨k, hm, fun x hx => by omega⟩
        | succ n ih =>
          intro k hk hm
          by_cases hall : ∀ x, x < k → x ∉ leftOf ops.size listed
          · exact ⟨k, hm, hall⟩
          · simp only [Classical.not_forall] at hall
            obtain ⟨x, hx, hmem⟩ := hall
            exact ih x (by omega) (Classical.not_not.1 hmem)
      exact this k0 k0 (Nat.le_refl _) hk0
    obtain ⟨hkn, hkl⟩ := List.mem_filter.1 hk
    have hkn' : k < ops.size := by simpa using hkn
    have hmem : k ∈ Region.ready .any ops listed := by
      rw [mem_ready]
      refine ⟨by simpa using hkl, ops[k], Array.getElem?_eq_getElem hkn', fun e he hb => ?_⟩
      have hlt := hback k _ e (Array.getElem?_eq_getElem hkn') he hb
      have hno := hmin e.on hlt
      unfold leftOf at hno
      rw [List.mem_filter] at hno
      simp only [List.mem_range, Bool.not_eq_true', not_and, Bool.not_eq_false] at hno
      have ht := hno (by omega)
      by_cases hsz : e.on < listed.size
      · simpa [hsz] using ht
      · -- outside: then k is outside, too
        have : listed.getD k true = true := by simp [Array.getElem?_eq_none (show listed.size ≤ k by omega)]
        simp [this] at hkl
    rw [hr] at hmem
    cases hmem
  intro fuel
  induction fuel with
  | zero =>
    intro listed a w hsz hf hS h
    have hnil : leftOf ops.size listed = [] := List.length_eq_zero_iff.1 (by omega)
    rw [hnil] at h
    refine ⟨?_, hD a w h hS⟩
    rw [List.eq_nil_iff_forall_not_mem]
    intro i hi
    obtain ⟨h0, o, ho, _⟩ := mem_ready.1 hi
    have : i ∈ leftOf ops.size listed := List.mem_filter.2 ⟨List.mem_range.2 (Array.getElem?_eq_some_iff.1 ho).1, by simpa using h0⟩
    rw [hnil] at this
    cases this
  | succ fuel ih =>
    intro listed a w hsz hf hS h
    refine ⟨fun hr => ?_, fun i hi => ?_⟩
    · rw [hready listed hr] at h
      exact hD a w h hS
    · obtain ⟨h0, oi, hoi, hall⟩ := mem_ready.1 hi
      have hin : i < ops.size := (Array.getElem?_eq_some_iff.1 hoi).1
      obtain ⟨xs, ys, h1, h2, h3⟩ := leftOf_set (n := ops.size) h0
      rw [if_pos hin] at h1
      rw [h1, List.append_assoc, List.singleton_append] at h
      have hxs : ∀ x ∈ xs, ∀ ox, ops[x]? = some ox → ox.apart ops oi = true := fun x hx ox hox => by
        refine hap x i ox oi hox hoi (h3 x hx) fun e he hb heq => ?_
        have hl := hall e he hb
        have hxl : x ∈ leftOf ops.size listed := by rw [h1]; simp [hx]
        have hxf := (List.mem_filter.1 hxl).2
        rw [heq] at hl
        have hxs' : x < listed.size := by rw [hsz]; exact (Array.getElem?_eq_some_iff.1 hox).1
        simp [hxs'] at hl hxf
        rw [hl] at hxf
        cases hxf
      obtain ⟨v, hv, h'⟩ := flowN_front hs hoi xs ys a hxs h
      refine hv.wpOp hoi hS fun w' hb => ?_
      refine ih _ _ _ (by simpa using hsz) ?_ (hmono _ _ hS hb) (by rw [h2]; exact h')
      rw [h2]
      rw [h1] at hf
      simp at hf ⊢
      omega

theorem leftOf_none (n : Nat) : leftOf n (Array.replicate n false) = List.range n := by
  unfold leftOf
  rw [List.filter_eq_self]
  intro i hi
  have : i < n := List.mem_range.1 hi
  simp [this]

/-- THE LAW: the region is walked once, in the order of the text; S holds at its beginning, and all that is known of the world behind it is S. -/
theorem wp_region_flow {id : Nat} {a : Act} {w : World} (S : World → Prop) (hm : P.follows .mixedOrders = true) (hs : Region.noSelect ops = true) (hok : flowOk ops = true) (hmono : Stays S)
    (hS : S w.drew) (h : Flow P ops S (fun a' => ∀ w', S w' → Q .normal a' w') ops.toList a) : (Code.region id ops true).wp P Q a w := by
  refine wp_region_any hm (wpAny_of_flow (S := S) (D := fun a' => ∀ w', S w' → Q .normal a' w') hmono (Region.noSelect_spec hs) hok (fun a w hd hw => hd w hw) _ _ _ _ (by simp) ?_ hS ?_)
  · rw [leftOf_none]; simp
  · rw [leftOf_none, List.range_eq_range']
    have := flowN_of (ops := ops) ops.toList 0 a (fun j _ => by simp) h
    simpa using this

/-! ### The steps -/
theorem Flow.value {D : Act → Prop} {o : Oper} {rest : List Oper} {a : Act} {v : Value} (hw : Region.wanted o (yielded ops a.tmps) = true) (hv : ∀ w, S w → (execOp a.eval o).run P w = .ok (.value v) w)
    (h : Flow P ops S D rest (a.put o.dst v)) : Flow P ops S D (o :: rest) a :=
  ⟨v, .inl ⟨hw, fun w hS => by rw [hv w hS]; exact ⟨rfl, rfl⟩⟩, h⟩

theorem Flow.idle {D : Act → Prop} {o : Oper} {rest : List Oper} {a : Act} (hw : Region.wanted o (yielded ops a.tmps) = false)
    (h : Flow P ops S D rest (a.put o.dst undef)) : Flow P ops S D (o :: rest) a :=
  ⟨undef, .inr ⟨hw, rfl⟩, h⟩

theorem Flow.call {D : Act → Prop} {o : Oper} {rest : List Oper} {a : Act} {v : Value} {f : FuncId} {args : Array Value} (hw : Region.wanted o (yielded ops a.tmps) = true)
    (hv : ∀ w, S w → (execOp a.eval o).run P w = .ok (.enter f args) w) (hc : ∀ w, S w → Calls P f args w (fun e w' => e = .returned v ∧ Below w.heap.size w w'))
    (h : Flow P ops S D rest (a.put o.dst v)) : Flow P ops S D (o :: rest) a :=
  ⟨v, .inl ⟨hw, fun w hS => by rw [hv w hS]; exact ⟨rfl, hc w hS⟩⟩, h⟩

/-- Block b of the heap is the object o. -/
def Blk (w : World) (b : Nat) (o : Obj) : Prop := w.heap[b]? = some o
theorem Blk.lt {w : World} {b : Nat} {o : Obj} (h : Blk w b o) : b < w.heap.size := (Array.getElem?_eq_some_iff.1 h).1
theorem Blk.keep {w w' : World} {b : Nat} {o : Obj} (h : Blk w b o) (hb : Below w.heap.size w w') : Blk w' b o := (hb.block b h.lt).trans h
theorem Blk.cell {w : World} {b : Nat} {cs : Array Value} {t : TypeId} {fr : Nat × Nat} (h : Blk w b (.cells cs t fr)) (i : Nat) : w.cell? ⟨b, i, none⟩ = cs[i]? := by
  have h : w.heap[b]? = some (.cells cs t fr) := h
  simp [World.cell?, h]
theorem Blk.new (w : World) (o : Obj) : Blk (w.alloc o) w.heap.size o := by
  show (w.heap.push o)[w.heap.size]? = some o
  simp
theorem Blk.newAt {w : World} {b : Nat} (o : Obj) (h : b = w.heap.size) : Blk (w.alloc o) b o := h ▸ Blk.new w o
theorem Blk.old {w : World} {b : Nat} {o : Obj} (h : Blk w b o) (o' : Obj) : Blk (w.alloc o') b o := by
  have := h.lt
  show (w.heap.push o')[b]? = some o
  rw [Array.getElem?_push, if_neg (by omega)]
  exact h
theorem Blk.draw {w : World} {b : Nat} {o : Obj} (h : Blk w b o) : Blk w.drew b o := h

theorem Blk.frozen {w : World} {b : Nat} {cs : Array Value} {t : TypeId} (h : Blk w b (.cells cs t)) (i : Nat) : w.frozen? ⟨b, i, none⟩ = false := by
  have h : w.heap[b]? = some (.cells cs t (0, 0)) := h
  simp [World.frozen?, h]
theorem Blk.one {w : World} {b : Nat} {v0 : Value} {t : TypeId} (h : Blk w b (.cells #[v0] t)) : w.cell? ⟨b, 0, none⟩ = some v0 ∧ w.frozen? ⟨b, 0, none⟩ = false :=
  ⟨h.cell 0, h.frozen 0⟩
theorem Blk.two {w : World} {b : Nat} {v0 v1 : Value} {t : TypeId} (h : Blk w b (.cells #[v0, v1] t)) :
    w.cell? ⟨b, 0, none⟩ = some v0 ∧ w.cell? ⟨b, 1, none⟩ = some v1 ∧ w.frozen? ⟨b, 0, none⟩ = false ∧ w.frozen? ⟨b, 1, none⟩ = false :=
  ⟨h.cell 0, h.cell 1, h.frozen 0, h.frozen 1⟩
theorem Blk.three {w : World} {b : Nat} {v0 v1 v2 : Value} {t : TypeId} (h : Blk w b (.cells #[v0, v1, v2] t)) :
    w.cell? ⟨b, 0, none⟩ = some v0 ∧ w.cell? ⟨b, 1, none⟩ = some v1 ∧ w.cell? ⟨b, 2, none⟩ = some v2 ∧ w.frozen? ⟨b, 0, none⟩ = false ∧ w.frozen? ⟨b, 1, none⟩ = false ∧ w.frozen? ⟨b, 2, none⟩ = false :=
  ⟨h.cell 0, h.cell 1, h.cell 2, h.frozen 0, h.frozen 1, h.frozen 2⟩
theorem Blk.four {w : World} {b : Nat} {v0 v1 v2 v3 : Value} {t : TypeId} (h : Blk w b (.cells #[v0, v1, v2, v3] t)) :
    w.cell? ⟨b, 0, none⟩ = some v0 ∧ w.cell? ⟨b, 1, none⟩ = some v1 ∧ w.cell? ⟨b, 2, none⟩ = some v2 ∧ w.cell? ⟨b, 3, none⟩ = some v3 ∧
      w.frozen? ⟨b, 0, none⟩ = false ∧ w.frozen? ⟨b, 1, none⟩ = false ∧ w.frozen? ⟨b, 2, none⟩ = false ∧ w.frozen? ⟨b, 3, none⟩ = false :=
  ⟨h.cell 0, h.cell 1, h.cell 2, h.cell 3, h.frozen 0, h.frozen 1, h.frozen 2, h.frozen 3⟩
/-- Behind a call that came behind one (two, three) new blocks. -/
theorem after_one {w w1 : World} {o1 : Obj} (hb : Below (w.alloc o1).heap.size (w.alloc o1) w1) : Below w.heap.size w w1 ∧ w.heap.size + 1 ≤ w1.heap.size ∧ Blk w1 w.heap.size o1 := by
  have h := hb.size
  simp only [World.size_alloc] at h
  exact ⟨((Below.refl _ _).alloc (Nat.le_refl _) _).trans (hb.mono (by simp)), h, (Blk.new _ _).keep hb⟩
theorem after_two {w w1 : World} {o1 o2 : Obj} (hb : Below ((w.alloc o1).alloc o2).heap.size ((w.alloc o1).alloc o2) w1) :
    Below w.heap.size w w1 ∧ w.heap.size + 2 ≤ w1.heap.size ∧ Blk w1 w.heap.size o1 ∧ Blk w1 (w.heap.size + 1) o2 := by
  have h := hb.size
  simp only [World.size_alloc] at h
  exact ⟨(((Below.refl _ _).alloc (Nat.le_refl _) _).alloc (by simp) _).trans (hb.mono (by simp; omega)), by omega, ((Blk.new _ _).old _).keep hb, (Blk.newAt _ (by simp)).keep hb⟩
theorem after_three {w w1 : World} {o1 o2 o3 : Obj} (hb : Below (((w.alloc o1).alloc o2).alloc o3).heap.size (((w.alloc o1).alloc o2).alloc o3) w1) :
    Below w.heap.size w w1 ∧ w.heap.size + 3 ≤ w1.heap.size ∧ Blk w1 w.heap.size o1 ∧ Blk w1 (w.heap.size + 1) o2 ∧ Blk w1 (w.heap.size + 2) o3 := by
  have h := hb.size
  simp only [World.size_alloc] at h
  exact ⟨((((Below.refl _ _).alloc (Nat.le_refl _) _).alloc (by simp) _).alloc (by simp; omega) _).trans (hb.mono (by simp; omega)), by omega, (((Blk.new _ _).old _).old _).keep hb, ((Blk.newAt _ (by simp)).old _).keep hb, (Blk.newAt _ (by simp)).keep hb⟩

/-- Behind a store. -/
theorem Blk.set {w : World} {b : Nat} {cs : Array Value} {t : TypeId} {fr : Nat × Nat} (h : Blk w b (.cells cs t fr)) (i : Nat) (v : Value) : Blk (w.setCell ⟨b, i, none⟩ v) b (.cells (cs.setIfInBounds i v) t fr) := by
  have h : w.heap[b]? = some (.cells cs t fr) := h
  show (w.setCell ⟨b, i, none⟩ v).heap[b]? = _
  simp only [World.setCell, Array.getElem?_modify, if_true, h]
  rfl
theorem Blk.setOther {w : World} {b : Nat} {o : Obj} (h : Blk w b o) {p : Addr} (hp : p.block ≠ b) (v : Value) : Blk (w.setCell p v) b o := by
  have h : w.heap[b]? = some o := h
  show (w.setCell p v).heap[b]? = _
  simp only [World.setCell, Array.getElem?_modify]
  rw [if_neg hp, h]

/-- All old memory as it was, through one call more; with one new block more. -/
theorem thru {w wa wb : World} (h : Below w.heap.size w wa) (hb : Below wa.heap.size wa wb) : Below w.heap.size w wb := h.trans (hb.mono h.size)
theorem more {w wa : World} (h : Below w.heap.size w wa) (o : Obj) : Below w.heap.size w (wa.alloc o) := h.alloc h.size o

theorem Flow.done {D : Act → Prop} {a : Act} (h : D a) : Flow P ops S D [] a := h
end
end Go.Proofs.YtcppmkblllappaaDoor
