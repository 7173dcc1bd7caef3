/-
  The middle of a row.
  A new array of 68 bytes.
  A second law of this seat's own on regions that draw their order: beside operations that answer one value in every world that meets S, the region may make new variables (their blocks are known only as new and apart), and end in operations that wait for all that stands ahead of them, and for each other; these are walked one behind the other.
-/
import Derived.Test.YtioeaknhcfkfcaaBu01
import Derived.Deep.MidRow
import Derived.Laws.CopyOwn
import Derived.Great.Walk
namespace Go.Proofs.Ytioeaknhcfkfcaa
open Go.RowKit

theorem exec_load_mid {P : Program} {o : Oper} {a : Act} {w : World} {ty : TypeId} {x : Operand} {b off : Nat} {cs : List Value} {d : TypeDesc} (ho : o.op = .load ty x) (hx : a.eval x = .pointer (some ⟨b, off, none⟩)) (hc : w.rangeAt b off cs)
    (hu : P.underlying ty = some d) (hd : d.isRow = true) (hi : (P.info? ty).map (·.size) = some cs.length) : (execOp a.eval o).run P w = .ok (.value (.agg cs.toArray)) w := by
  unfold execOp
  simp only [ho, hx, Instr.loadAt, Instr.sureAddr, Sem.run_bind, Sem.run_pure, Result.andThen_ok, run_loadVar_mid w b off ty cs d hc hu hd hi]

theorem Row.setCells {b : Nat} {t : TypeId} {k : IntKind} : ∀ (z : List Int) (o : Nat) (w : World) (l : List Int), o + z.length ≤ l.length → Row w b t k l → Row (w.setCells b o (kv k z)) b t k (splice l o z)
  | [], o, w, l, _, h => by
    have e : splice l o [] = l := by simp [splice]
    rw [e]
    exact h
  | x :: r, o, w, l, hl, h => by
    have h1 := Row.setCells (b := b) (t := t) (k := k) r (o + 1) _ (l.set o x) (by simp at hl ⊢; omega) (h.set o x)
    have e : splice (l.set o x) (o + 1) r = splice l o (x :: r) := by
      simp at hl
      unfold splice
      have e1 : (l.set o x).take (o + 1) = l.take o ++ [x] := by
        rw [List.take_add_one, List.take_set_of_le (Nat.le_refl o)]
        simp [List.getElem?_set_self (show o < l.length by omega)]
      have e2 : (l.set o x).drop (o + 1 + r.length) = l.drop (o + 1 + r.length) := List.drop_set_of_lt (by omega)
      rw [e1, e2, List.append_assoc, List.singleton_append, List.cons_append, List.length_cons, show o + 1 + r.length = o + (r.length + 1) by omega]
    rw [e] at h1
    exact h1
theorem Below.cells {B b : Nat} (hB : B ≤ b) : ∀ (vs : List Value) (o : Nat) (a w : World), Below B a w → Below B a (w.setCells b o vs)
  | [], _, _, _, h => h
  | v :: r, o, _, w, h => Below.cells hB r (o + 1) _ _ (h.setCell (p := ⟨b, o, none⟩) hB v)
theorem Row.there {w : World} {b : Nat} {t : TypeId} {k : IntKind} {l : List Int} (h : Row w b t k l) {o n : Nat} (hl : o + n ≤ l.length) : w.there b o n := fun j hj =>
  ⟨by rw [h.cell (i := o + j) (by omega)]; rfl, h.frozen (o + j)⟩
theorem Row.otherCells {b g : Nat} {t : TypeId} {k : IntKind} {l : List Int} (hne : g ≠ b) : ∀ (vs : List Value) (o : Nat) (w : World), Row w b t k l → Row (w.setCells g o vs) b t k l
  | [], _, _, h => h
  | v :: r, o, _, h => Row.otherCells hne r (o + 1) _ (h.other (p := ⟨g, o, none⟩) hne v)
theorem Blk.otherCells {b g : Nat} {x : Obj} (hne : g ≠ b) : ∀ (vs : List Value) (o : Nat) (w : World), Blk w b x → Blk (w.setCells g o vs) b x
  | [], _, _, h => h
  | v :: r, o, _, h => Blk.otherCells hne r (o + 1) _ (h.setOther (p := ⟨g, o, none⟩) hne v)
/-- The middle of a row. -/
theorem Row.mid {w : World} {b : Nat} {t : TypeId} {k : IntKind} {l : List Int} (h : Row w b t k l) {o n : Nat} (hl : o + n ≤ l.length) : w.rangeAt b o (kv k ((l.drop o).take n)) := by
  intro j v hv
  have hj : j < n := by
    have h1 := (List.getElem?_eq_some_iff.1 hv).1
    simp at h1
    omega
  rw [h.cell (i := o + j) (by omega)]
  rw [List.getElem?_map, List.getElem?_take, if_pos hj, List.getElem?_drop, List.getElem?_eq_getElem (by omega)] at hv
  simp at hv
  rw [List.getD_eq_getElem?_getD, List.getElem?_eq_getElem (by omega)]
  simpa using hv
end Go.Proofs.Ytioeaknhcfkfcaa

namespace Go.Proofs.Ytioeaknhcfkfcaa
open Go.RowKit

theorem alloc_row {P : Program} {t : TypeId} {cs : Array Value} {n : Nat} (hi : (P.info? t).map (fun i => (i.zero, i.size)) = some (some (.agg cs), n)) (old : Value) (w : World) :
    (Instr.alloc t true old).run P w = .ok (.pointer (some ⟨w.heap.size, 0, none⟩)) (w.alloc (.cells cs t)) := by
  cases hq : P.info? t with
  | none => simp [hq] at hi
  | some i =>
    have hz : i.zero = some (.agg cs) := by simp [hq] at hi; exact hi.1
    unfold Instr.alloc
    simp [zeroValue, typeInfo, hq, hz, newVar, newRow, Value.cells]
theorem wpList_alloc_row {P : Program} {ops : Array Oper} {rest : List Oper} {o : Oper} {a : Act} {w : World} {Q : Exit → Act → World → Prop} (hg : o.guard = none) (t : TypeId) (ho : o.op = .alloc t)
    (cs : Array Value) (n : Nat) (hi : (P.info? t).map (fun i => (i.zero, i.size)) = some (some (.agg cs), n))
    (h : wpList P ops Q rest (a.put o.dst (.pointer (some ⟨w.heap.size, 0, none⟩))) (w.alloc (.cells cs t))) : wpList P ops Q (o :: rest) a w := by
  refine Go.Great.wpList_allocTo hg o.dst rfl _ _ ?_ h
  unfold execOp
  simp only [ho, Sem.run_bind, alloc_row hi, Result.andThen_ok, Sem.run_pure]
theorem box_row {t : TypeId} {cs : List Value} (h1 : (Try.prog.info? t).map (·.size) = some cs.toArray.size) (w : World) : (Instr.box t (.agg cs.toArray)).run Try.prog w = .ok (.pointer (some ⟨w.heap.size, 0, none⟩)) (w.alloc (.cells cs.toArray t)) := by
  cases hq : Try.prog.info? t with
  | none => simp [hq] at h1
  | some i =>
    have hi : i.size = cs.toArray.size := by simpa [hq] using h1
    simp [Instr.box, newVar, sizeOf, typeInfo, hq, hi, Value.cells, newRow]
theorem wpList_box_eq {P : Program} {w : World} {ops : Array Oper} {rest : List Oper} {o : Oper} {a : Act} {Q : Exit → Act → World → Prop} (hg : o.guard = none) (t : TypeId) (x : Operand) (ho : o.op = .box t x)
    (u : Value) (hx : a.eval x = u) (v : Value) (w' : World) (hrun : (Instr.box t u).run P w = .ok v w') (h : wpList P ops Q rest (a.put o.dst v) w') : wpList P ops Q (o :: rest) a w := by
  subst hx
  refine wpList_plain hg fun _ hK => ?_
  unfold Oper.wp execOp
  simp only [ho, Sem.run_bind, hrun, Result.andThen_ok]
  exact hK _ _ h
end Go.Proofs.Ytioeaknhcfkfcaa

namespace Go.Proofs.Ytioeaknhcfkfcaa
open Go.RowKit

section
variable {P : Program} {ops : Array Oper} {Q : Exit → Act → World → Prop} {S : World → Prop}

/-- The numbers of the operations for which number j waits (in so many steps). -/
def waits (ops : Array Oper) : Nat → Nat → Nat → Bool
  | 0, _, _ => false
  | f + 1, j, x => match ops[j]? with
    | some o => o.after.any fun e => Region.binds .any e && (e.on == x || waits ops f e.on x)
    | none => false

/-- What has come up is closed: all for which it waits has come up. -/
def Closed (ops : Array Oper) (listed : Array Bool) : Prop :=
  ∀ (i : Nat) (o : Oper) (e : Edge), listed.getD i false = true → ops[i]? = some o → e ∈ o.after → Region.binds .any e = true → listed.getD e.on false = true

theorem waits_listed {listed : Array Bool} (hc : Closed ops listed) : ∀ (f j x : Nat) (o : Oper), ops[j]? = some o → (∀ e ∈ o.after, Region.binds .any e = true → listed.getD e.on false = true) →
    waits ops f j x = true → listed.getD x false = true
  | 0, _, _, _, _, _, h => by simp [waits] at h
  | f + 1, j, x, o, ho, hall, h => by
    simp only [waits, ho, Array.any_eq_true', Bool.and_eq_true, Bool.or_eq_true, beq_iff_eq] at h
    obtain ⟨e, he, hb, h⟩ := h
    have hl := hall e he hb
    rcases h with rfl | h
    · exact hl
    · cases ho2 : ops[e.on]? with
      | none =>
        cases f with
        | zero => simp [waits] at h
        | succ f => simp [waits, ho2] at h
      | some o2 => exact waits_listed hc f e.on x o2 ho2 (fun e2 he2 hb2 => hc e.on o2 e2 hl ho2 he2 hb2) h

def dstOf (ops : Array Oper) (i : Nat) : Option Tmp := (ops[i]?).bind (·.dst)

/-- The new variables that have been made, in their slots. -/
def putNew (ops : Array Oper) (γ : Nat → Option Nat) : List Nat → Act → Act
  | [], a => a
  | i :: r, a => putNew ops γ r (match γ i with | some b => a.put (dstOf ops i) (.pointer (some ⟨b, 0, none⟩)) | none => a)

/-- The parts: vs: values, one behind the other; news: new variables; bs: the end. -/
def partsOk (ops : Array Oper) (vs news bs : List Nat) : Bool :=
  ((List.range ops.size).all fun i => vs.contains i || news.contains i || bs.contains i) &&
  (vs.all fun i => decide (i < ops.size) && !news.contains i && !bs.contains i) && (news.all fun i => decide (i < ops.size) && !bs.contains i) && (bs.all fun i => decide (i < ops.size)) &&
  decide (vs.Pairwise (· < ·)) && decide (news.Nodup) &&
  (vs.all fun j => match ops[j]? with
    | some oj => (oj.after.all fun e => !Region.binds .any e || (vs.contains e.on && decide (e.on < j))) &&
        (vs.all fun i => !decide (i < j) || (oj.after.any fun e => Region.binds .any e && e.on == i) || (match ops[i]? with | some oi => oi.apart ops oj | none => false)) &&
        (news.all fun i => match ops[i]? with | some oi => oi.apart ops oj && oj.apart ops oi | none => false)
    | none => false) &&
  (news.all fun j => match ops[j]? with
    | some oj => (oj.after.all fun e => !Region.binds .any e) && oj.guard.isNone && (news.all fun i => i == j || (match ops[i]? with | some oi => oi.apart ops oj | none => false))
    | none => false) &&
  (bs.zipIdx.all fun (j, k) => match ops[j]? with
    | some oj => (oj.after.all fun e => !Region.binds .any e || vs.contains e.on || news.contains e.on || (bs.take k).contains e.on) &&
        ((vs ++ news ++ bs.take k).all fun x => waits ops ops.size j x)
    | none => false)

theorem put_same_apart {a : Act} {x y : Option Tmp} (v u : Value) (h : ∀ d, x = some d → y ≠ some d) : (a.put x v).put y u = (a.put y u).put x v := Act.put_comm a v u h

theorem putNew_put (γ : Nat → Option Nat) : ∀ (l : List Nat) (a : Act) (d : Option Tmp) (v : Value), (∀ i ∈ l, ∀ t, dstOf ops i = some t → d ≠ some t) → putNew ops γ l (a.put d v) = (putNew ops γ l a).put d v
  | [], _, _, _, _ => rfl
  | i :: r, a, d, v, h => by
    have hi := h i (by simp)
    unfold putNew
    cases γ i with
    | none => exact putNew_put γ r a d v fun j hj => h j (List.mem_cons_of_mem _ hj)
    | some b =>
      simp only
      rw [Act.put_comm a v _ (fun t ht => fun hx => hi t hx ht)]
      exact putNew_put γ r _ d v fun j hj => h j (List.mem_cons_of_mem _ hj)

theorem putNew_congr {γ γ' : Nat → Option Nat} : ∀ (l : List Nat) (a : Act), (∀ i ∈ l, γ i = γ' i) → putNew ops γ l a = putNew ops γ' l a
  | [], _, _ => rfl
  | i :: r, a, h => by
    unfold putNew
    rw [h i (by simp)]
    exact putNew_congr r _ fun j hj => h j (List.mem_cons_of_mem _ hj)

/-- One variable more. -/
theorem putNew_set (γ : Nat → Option Nat) (i b : Nat) : ∀ (l : List Nat) (a : Act), i ∈ l → l.Nodup → γ i = none → (∀ j ∈ l, j ≠ i → ∀ t, dstOf ops j = some t → dstOf ops i ≠ some t) →
    putNew ops (fun j => if j = i then some b else γ j) l a = (putNew ops γ l a).put (dstOf ops i) (.pointer (some ⟨b, 0, none⟩))
  | [], _, h, _, _, _ => by cases h
  | j :: r, a, h, hnd, h0, hap => by
    have hnd' := List.nodup_cons.1 hnd
    by_cases hji : j = i
    · subst hji
      unfold putNew
      rw [h0]
      simp only [if_true]
      rw [putNew_congr (γ' := γ) r _ (fun k hk => by rw [if_neg (fun (e : k = j) => hnd'.1 (e ▸ hk))])]
      exact putNew_put γ r a _ _ fun k hk t ht => hap k (List.mem_cons_of_mem _ hk) (fun e => hnd'.1 (e ▸ hk)) t ht
    · unfold putNew
      rw [if_neg hji]
      exact putNew_set γ i b r _ (by cases h with | head => exact absurd rfl hji | tail _ h => exact h) hnd'.2 h0 fun k hk => hap k (List.mem_cons_of_mem _ hk)

theorem eval_putNew (γ : Nat → Option Nat) (o : Oper) (hs : ∀ cs b, o.op ≠ .select cs b) : ∀ (l : List Nat) (a : Act), (∀ i ∈ l, ∀ t, dstOf ops i = some t → t ∉ o.looksAt ops) →
    execOp (putNew ops γ l a).eval o = execOp a.eval o ∧ Region.wanted o (yielded ops (putNew ops γ l a).tmps) = Region.wanted o (yielded ops a.tmps)
  | [], _, _ => ⟨rfl, rfl⟩
  | i :: r, a, h => by
    unfold putNew
    have ih := fun a => eval_putNew γ o hs r a fun j hj => h j (List.mem_cons_of_mem _ hj)
    cases γ i with
    | none => exact ih a
    | some b =>
      have hd : ∀ d, dstOf ops i = some d → d ∉ o.looksAt ops := h i (by simp)
      exact ⟨((ih _).1).trans (execOp_put o hs a _ _ hd), ((ih _).2).trans (wanted_put o a _ _ hd)⟩

theorem partsOk_spec {vs news bs : List Nat} (h : partsOk ops vs news bs = true) :
    (∀ i, i < ops.size → i ∈ vs ∨ i ∈ news ∨ i ∈ bs) ∧ (∀ i ∈ vs, i < ops.size ∧ i ∉ news ∧ i ∉ bs) ∧ (∀ i ∈ news, i < ops.size ∧ i ∉ bs) ∧ (∀ i ∈ bs, i < ops.size) ∧ vs.Pairwise (· < ·) ∧ news.Nodup ∧
    (∀ j ∈ vs, ∀ oj, ops[j]? = some oj → (∀ e ∈ oj.after, Region.binds .any e = true → e.on ∈ vs ∧ e.on < j) ∧
      (∀ i ∈ vs, i < j → ∀ oi, ops[i]? = some oi → (∀ e ∈ oj.after, Region.binds .any e = true → e.on ≠ i) → oi.apart ops oj = true) ∧
      (∀ i ∈ news, ∀ oi, ops[i]? = some oi → oi.apart ops oj = true ∧ oj.apart ops oi = true)) ∧
    (∀ j ∈ news, ∀ oj, ops[j]? = some oj → (∀ e ∈ oj.after, Region.binds .any e = false) ∧ oj.guard = none ∧ (∀ i ∈ news, i ≠ j → ∀ oi, ops[i]? = some oi → oi.apart ops oj = true)) ∧
    (∀ (k j : Nat), bs[k]? = some j → ∀ oj, ops[j]? = some oj → (∀ e ∈ oj.after, Region.binds .any e = true → e.on ∈ vs ∨ e.on ∈ news ∨ e.on ∈ bs.take k) ∧
      (∀ x, x ∈ vs ∨ x ∈ news ∨ x ∈ bs.take k → waits ops ops.size j x = true)) := by
  unfold partsOk at h
  simp only [Bool.and_eq_true, List.all_eq_true, decide_eq_true_eq, List.mem_range, Bool.or_eq_true, Bool.not_eq_true', List.contains_eq_mem, decide_eq_false_iff_not] at h
  obtain ⟨⟨⟨⟨⟨⟨⟨⟨h1, h2⟩, h3⟩, h4⟩, h5⟩, h6⟩, h7⟩, h8⟩, h9⟩ := h
  refine ⟨fun i hi => by rcases h1 i hi with (h | h) | h <;> simp [h], fun i hi => ⟨(h2 i hi).1.1, (h2 i hi).1.2, (h2 i hi).2⟩, fun i hi => h3 i hi, h4, h5, h6, fun j hj oj hoj => ?_, fun j hj oj hoj => ?_, fun k j hk oj hoj => ?_⟩
  · have h := h7 j hj
    rw [hoj] at h
    simp only [Bool.and_eq_true, Array.all_eq_true_iff_forall_mem, List.all_eq_true, Bool.or_eq_true, Bool.not_eq_true', decide_eq_true_eq, decide_eq_false_iff_not, Array.any_eq_true', beq_iff_eq] at h
    obtain ⟨⟨a1, a2⟩, a3⟩ := h
    refine ⟨fun e he hb => ?_, fun i hi hij oi hoi hno => ?_, fun i hi oi hoi => ?_⟩
    · rcases a1 e he with h | h
      · rw [hb] at h; cases h
      · exact h
    · rcases a2 i hi with (h | h) | h
      · exact absurd hij h
      · obtain ⟨e, he, hb, heq⟩ := h
        exact absurd heq (hno e he hb)
      · rw [hoi] at h; exact h
    · have h := a3 i hi
      rw [hoi] at h
      simpa using h
  · have h := h8 j hj
    rw [hoj] at h
    simp only [Bool.and_eq_true, Array.all_eq_true_iff_forall_mem, List.all_eq_true, Bool.or_eq_true, Bool.not_eq_true', beq_iff_eq, Option.isNone_iff_eq_none] at h
    obtain ⟨⟨a1, a2⟩, a3⟩ := h
    refine ⟨a1, a2, fun i hi hne oi hoi => ?_⟩
    rcases a3 i hi with h | h
    · exact absurd h hne
    · rw [hoi] at h; exact h
  · have hm : (j, k) ∈ bs.zipIdx := by rw [List.mem_zipIdx_iff_getElem?]; exact hk
    have h := h9 _ hm
    simp only [hoj, Bool.and_eq_true, Array.all_eq_true_iff_forall_mem, List.all_eq_true, Bool.or_eq_true, Bool.not_eq_true', decide_eq_true_eq, List.mem_append] at h
    refine ⟨fun e he hb => ?_, fun x hx => h.2 x (by simpa [or_assoc] using hx)⟩
    rcases h.1 e he with ((h | h) | h) | h
    · rw [hb] at h; cases h
    · exact .inl h
    · exact .inr (.inl h)
    · exact .inr (.inr h)

/-- What holds of the new variables. -/
structure News (news : List Nat) (B0 : Nat) (zo : Nat → Obj) (γ : Nat → Option Nat) (w : World) : Prop where
  blk : ∀ i ∈ news, ∀ b, γ i = some b → Blk w b (zo i) ∧ B0 ≤ b
  apart : ∀ i ∈ news, ∀ j ∈ news, i ≠ j → ∀ b c, γ i = some b → γ j = some c → b ≠ c

theorem News.keep {news : List Nat} {B0 : Nat} {zo : Nat → Obj} {γ : Nat → Option Nat} {w w' : World} (h : News news B0 zo γ w) (hb : Below w.heap.size w w') : News news B0 zo γ w' :=
  ⟨fun i hi b hg => ⟨(h.blk i hi b hg).1.keep hb, (h.blk i hi b hg).2⟩, h.apart⟩

theorem listed_set {listed : Array Bool} {i : Nat} (hi : i < listed.size) (j : Nat) : (listed.setIfInBounds i true).getD j false = if j = i then true else listed.getD j false := by
  by_cases h : j = i
  · subst h; simp [hi]
  · rw [if_neg h, getD_set_ne false (Ne.symm h)]

/-- The end: one behind the other. -/
theorem wpAny_end {vs news bs : List Nat} (hok : partsOk ops vs news bs = true) : ∀ (rest : List Nat) (k : Nat) (fuel : Nat) (listed : Array Bool) (a : Act) (w : World),
    bs.drop k = rest → listed.size = ops.size → rest.length ≤ fuel → bs.Nodup → (∀ i, i < ops.size → (listed.getD i false = true ↔ i ∉ rest)) →
    wpOps P ops Q rest a w → wpAny P .any ops Q fuel listed a w := by
  obtain ⟨hall, hvs, hnews, hbs, hlt, hnd, hV, hN, hB⟩ := partsOk_spec hok
  intro rest
  induction rest with
  | nil =>
    intro k fuel listed a w hd hsz hf hbnd hl h
    have hr : Region.ready .any ops listed = [] := by
      rw [List.eq_nil_iff_forall_not_mem]
      intro i hi
      obtain ⟨h0, o, ho, _⟩ := mem_ready.1 hi
      have hin := (Array.getElem?_eq_some_iff.1 ho).1
      have := (hl i hin).2 (by simp)
      have hsz' : i < listed.size := by omega
      simp [hsz'] at h0 this
      rw [h0] at this
      cases this
    cases fuel with
    | zero => exact ⟨hr, h⟩
    | succ fuel => exact ⟨fun _ => h, by rw [hr]; simp⟩
  | cons j rest ih =>
    intro k fuel listed a w hd hsz hf hbnd hl h
    cases fuel with
    | zero => simp at hf
    | succ fuel =>
      have hk : bs[k]? = some j := by
        have := congrArg (fun l => l[0]?) hd
        simpa using this
      have hjb : j ∈ bs := List.mem_of_getElem? hk
      have hjn := hbs j hjb
      have hdrop : bs.drop (k + 1) = rest := by
        rw [← List.drop_drop, hd]; rfl
      have hbs' : bs = bs.take k ++ j :: rest := by rw [← hd, List.take_append_drop]
      have hnd' : (bs.take k ++ j :: rest).Nodup := hbs' ▸ hbnd
      have hjr : j ∉ rest := fun hm => by
        have := (List.nodup_append.1 hnd').2.1
        exact (List.nodup_cons.1 this).1 hm
      have hunl : listed.getD j true = false := by
        have hne : ¬ listed.getD j false = true := fun hx => ((hl j hjn).1 hx) (by simp)
        have hsz' : j < listed.size := by omega
        simp [hsz'] at hne ⊢
        exact hne
      obtain ⟨oj, hoj⟩ : ∃ o, ops[j]? = some o := ⟨_, Array.getElem?_eq_getElem hjn⟩
      have hone : ∀ i, i ∈ Region.ready .any ops listed → i = j := fun i hi => by
        obtain ⟨h0, o, ho, hdeps⟩ := mem_ready.1 hi
        have hin := (Array.getElem?_eq_some_iff.1 ho).1
        have hir : i ∈ j :: rest := by
          false_or_by_contra
          rename_i hno
          have := (hl i hin).2 hno
          have hsz' : i < listed.size := by omega
          simp [hsz'] at h0 this
          rw [h0] at this
          cases this
        cases hir with
        | head => rfl
        | tail _ hir =>
          exfalso
          -- i waits for j, which has not come up
          obtain ⟨m, hm⟩ := List.getElem?_of_mem hir
          have hbi : bs[k + 1 + m]? = some i := by
            have := congrArg (fun l => l[m]?) hdrop
            simp only [List.getElem?_drop] at this
            rw [this, hm]
          have hjt : j ∈ bs.take (k + 1 + m) := by
            exact List.mem_of_getElem? (i := k) (by rw [List.getElem?_take, if_pos (by omega)]; exact hk)
          have hw := (hB _ i hbi o ho).2 j (.inr (.inr hjt))
          have hclosed : ∀ x, x < ops.size → x ∉ j :: rest → listed.getD x false = true := fun x hx hno => (hl x hx).2 hno
          have hcl : Closed ops listed := fun x ox e hlx hox he hb => by
            have hxn := (Array.getElem?_eq_some_iff.1 hox).1
            have hxr := (hl x hxn).1 hlx
            rcases hall x hxn with hx | hx | hx
            · obtain ⟨he1, he2⟩ := (hV x hx ox hox).1 e he hb
              have := hvs _ he1
              exact hclosed _ this.1 fun hm => this.2.2 (hbs' ▸ List.mem_append_right _ hm)
            · have := (hN x hx ox hox).1 e he
              rw [hb] at this; cases this
            · obtain ⟨q, hq⟩ := List.getElem?_of_mem hx
              have hqk : q < k := by
                false_or_by_contra
                rename_i hge
                refine hxr ?_
                rw [← hd]
                exact List.mem_of_getElem? (i := q - k) (by rw [List.getElem?_drop, show k + (q - k) = q by omega]; exact hq)
              rcases (hB q x hq ox hox).1 e he hb with h1 | h1 | h1
              · exact hclosed _ (hvs _ h1).1 fun hm => (hvs _ h1).2.2 (hbs' ▸ List.mem_append_right _ hm)
              · exact hclosed _ (hnews _ h1).1 fun hm => (hnews _ h1).2 (hbs' ▸ List.mem_append_right _ hm)
              · have hek : e.on ∈ bs.take k := List.take_subset_take_left bs (by omega) h1
                refine hclosed _ (hbs _ (List.mem_of_mem_take h1)) fun hm => ?_
                exact (List.nodup_append.1 hnd').2.2 _ hek _ hm rfl
          have := waits_listed hcl ops.size i j o ho hdeps hw
          rw [hl j hjn] at this
          exact this (by simp)
      have hready : j ∈ Region.ready .any ops listed := by
        rw [mem_ready]
        refine ⟨hunl, oj, hoj, fun e he hb => ?_⟩
        rcases (hB k j hk oj hoj).1 e he hb with h1 | h1 | h1
        · exact (hl _ (hvs _ h1).1).2 fun hm => (hvs _ h1).2.2 (hbs' ▸ List.mem_append_right _ hm)
        · exact (hl _ (hnews _ h1).1).2 fun hm => (hnews _ h1).2 (hbs' ▸ List.mem_append_right _ hm)
        · exact (hl _ (hbs _ (List.mem_of_mem_take h1))).2 fun hm => (List.nodup_append.1 hnd').2.2 _ h1 _ hm rfl
      refine ⟨fun hr => (by rw [hr] at hready; cases hready), fun i hi => ?_⟩
      obtain rfl := hone i hi
      rw [wpOps_cons] at h
      refine wpOp_mono (fun a' w' h' => ih (k + 1) fuel _ a' w' hdrop (by simpa using hsz) (by simp at hf; omega) hbnd (fun x hx => ?_) h') h
      rw [listed_set (by omega)]
      by_cases hxi : x = i
      · subst hxi
        simp [hjr]
      · rw [if_neg hxi, hl x hx]
        simp [hxi]

theorem closed_set {listed : Array Bool} (hc : Closed ops listed) {i : Nat} (hi : i ∈ Region.ready .any ops listed) : Closed ops (listed.setIfInBounds i true) := by
  obtain ⟨h0, o, ho, hdeps⟩ := mem_ready.1 hi
  intro x ox e hx hox he hb
  by_cases hxi : x = i
  · subst hxi
    rw [ho] at hox
    cases hox
    exact getD_set_true (hdeps e he hb)
  · rw [getD_set_ne false (Ne.symm hxi)] at hx
    exact getD_set_true (hc x ox e hx hox he hb)

theorem getD_flip {listed : Array Bool} {i : Nat} (h : i < listed.size) : listed.getD i true = listed.getD i false := by simp [h]

theorem wpAny_vars {D : Act → Prop} (hmono : Stays S) (hs : ∀ (j : Nat) (o : Oper) cs b, ops[j]? = some o → o.op ≠ .select cs b) {vs news bs : List Nat} (hok : partsOk ops vs news bs = true) (hbnd : bs.Nodup)
    {B0 : Nat} {zo : Nat → Obj} (hnew : ∀ i ∈ news, ∀ (a : Act) (w : World), ∃ o, ops[i]? = some o ∧ (execOp a.eval o).run P w = .ok (.value (.pointer (some ⟨w.heap.size, 0, none⟩))) (w.alloc (zo i)))
    (hD : ∀ (a : Act) (γ : Nat → Option Nat) (w : World), D a → S w → News news B0 zo γ w → (∀ i ∈ news, γ i ≠ none) → wpOps P ops Q bs (putNew ops γ news a) w) :
    ∀ (fuel : Nat) (listed : Array Bool) (aV : Act) (γ : Nat → Option Nat) (rv : List Nat) (w : World), listed.size = ops.size → rv.length + (news.filter fun i => (γ i).isNone).length + bs.length ≤ fuel →
      S w → B0 ≤ w.heap.size → News news B0 zo γ w → (∀ i ∈ news, γ i = none ↔ listed.getD i false = false) → (∀ i ∈ bs, listed.getD i false = false) → Closed ops listed →
      FlowN P ops S D rv aV → rv.Pairwise (· < ·) → (∀ i ∈ vs, i ∈ rv ↔ listed.getD i false = false) → (∀ i ∈ rv, i ∈ vs) → wpAny P .any ops Q fuel listed (putNew ops γ news aV) w := by
  obtain ⟨hall, hvs, hnews, hbs, hlt, hnd, hV, hN, hB⟩ := partsOk_spec hok
  intro fuel
  induction fuel with
  | zero =>
    intro listed aV γ rv w hsz hf hS hB0 hnw hγ hbl hcl hfl hpw hrv hrv2
    have hr0 : rv = [] := List.length_eq_zero_iff.1 (by omega)
    have hn0 : (news.filter fun i => (γ i).isNone) = [] := List.length_eq_zero_iff.1 (by omega)
    have hb0 : bs = [] := List.length_eq_zero_iff.1 (by omega)
    subst hr0
    refine wpAny_end hok bs 0 0 listed _ w rfl hsz (by simp [hb0]) hbnd (fun i hi => ?_) (hD aV γ w hfl hS hnw fun i hi h0 => ?_)
    · refine ⟨fun _ => by simp [hb0], fun _ => ?_⟩
      rcases hall i hi with h | h | h
      · have := (hrv i h)
        simpa using this
      · have h1 : (γ i).isNone = false := by
          have := List.filter_eq_nil_iff.1 hn0 i h
          cases hg : γ i with
          | none => rw [hg] at this; simp at this
          | some b => rfl
        have := (hγ i h)
        cases hg : γ i with
        | none => rw [hg] at h1; cases h1
        | some b => rw [hg] at this; simpa using this
      · rw [hb0] at h; cases h
    · have := List.filter_eq_nil_iff.1 hn0 i hi
      rw [h0] at this
      simp at this
  | succ fuel ih =>
    intro listed aV γ rv w hsz hf hS hB0 hnw hγ hbl hcl hfl hpw hrv hrv2
    by_cases hdone : rv = [] ∧ ∀ i ∈ news, γ i ≠ none
    · obtain ⟨rfl, hg⟩ := hdone
      refine wpAny_end hok bs 0 (fuel + 1) listed _ w rfl hsz (by simp at hf; omega) hbnd (fun i hi => ?_) (hD aV γ w hfl hS hnw hg)
      rcases hall i hi with h | h | h
      · have h1 := hrv i h
        have h2 := (hvs i h).2.2
        simp at h1
        simp [h1, h2]
      · have h1 := hγ i h
        have h2 := (hnews i h).2
        have h3 := hg i h
        simp [h3] at h1
        simp [h1, h2]
      · have h1 := hbl i h
        rw [h1]
        simp [h]
    · -- something of vs or news has not come up
      have hleft : ∃ x, (x ∈ vs ∨ x ∈ news) ∧ listed.getD x false = false ∧ x ∈ Region.ready .any ops listed := by
        by_cases hg : ∀ i ∈ news, γ i ≠ none
        · cases hr : rv with
          | nil => exact absurd ⟨hr, hg⟩ hdone
          | cons j r =>
            have hj : j ∈ rv := by rw [hr]; simp
            have hjv := hrv2 j hj
            have hjl := (hrv j hjv).1 hj
            have hjn := (hvs j hjv).1
            refine ⟨j, .inl hjv, hjl, ?_⟩
            rw [mem_ready]
            refine ⟨by rw [getD_flip (by omega)]; exact hjl, ops[j], Array.getElem?_eq_getElem hjn, fun e he hb => ?_⟩
            obtain ⟨he1, he2⟩ := (hV j hjv _ (Array.getElem?_eq_getElem hjn)).1 e he hb
            have hno : e.on ∉ rv := fun hm => by
              rw [hr] at hm hpw
              cases hm with
              | head => omega
              | tail _ hm => have := (List.pairwise_cons.1 hpw).1 _ hm; omega
            have := fun h => hno ((hrv _ he1).2 h)
            simpa using this
        · simp only [Classical.not_forall] at hg
          obtain ⟨i, hi, h0⟩ := hg
          have h0 : γ i = none := Classical.not_not.1 h0
          have hin := (hnews i hi).1
          have hil := (hγ i hi).1 h0
          refine ⟨i, .inr hi, hil, ?_⟩
          rw [mem_ready]
          refine ⟨by rw [getD_flip (by omega)]; exact hil, ops[i], Array.getElem?_eq_getElem hin, fun e he hb => ?_⟩
          have := (hN i hi _ (Array.getElem?_eq_getElem hin)).1 e he
          rw [hb] at this
          cases this
      obtain ⟨x, hx, hxl, hxr⟩ := hleft
      refine ⟨fun hr => (by rw [hr] at hxr; cases hxr), fun i hi => ?_⟩
      obtain ⟨h0, oi, hoi, hdeps⟩ := mem_ready.1 hi
      have hin := (Array.getElem?_eq_some_iff.1 hoi).1
      have h0' : listed.getD i false = false := by rw [← getD_flip (by omega)]; exact h0
      rcases hall i hin with hiv | hinw | hib
      · -- a value
        have hir := (hrv i hiv).2 h0'
        obtain ⟨xs, ys, hsplit⟩ := List.append_of_mem hir
        rw [hsplit] at hfl hpw
        have hpw' := List.pairwise_append.1 hpw
        have hxs : ∀ y ∈ xs, ∀ oy, ops[y]? = some oy → oy.apart ops oi = true := fun y hy oy hoy => by
          have hyv : y ∈ vs := hrv2 y (by rw [hsplit]; simp [hy])
          have hyi : y < i := hpw'.2.2 y hy i (by simp)
          refine (hV i hiv oi hoi).2.1 y hyv hyi oy hoy fun e he hb heq => ?_
          have hl := hdeps e he hb
          rw [heq] at hl
          have := (hrv y hyv).1 (by rw [hsplit]; simp [hy])
          rw [hl] at this
          cases this
        obtain ⟨v, hv, h'⟩ := flowN_front hs hoi xs ys aV hxs hfl
        have hev := eval_putNew (ops := ops) γ oi (fun cs b => hs i oi cs b hoi) news aV fun n hn t ht => by
          obtain ⟨on, hon⟩ : ∃ o, ops[n]? = some o := ⟨_, Array.getElem?_eq_getElem (hnews n hn).1⟩
          have := ((hV i hiv oi hoi).2.2 n hn on hon).1
          exact (Oper.apart_spec this).1 t (by simpa [dstOf, hon] using ht)
        have hv' : FlowOp P ops S oi v (putNew ops γ news aV) := hv.of_same hev.1 hev.2
        refine hv'.wpOp hoi hS fun w' hb => ?_
        rw [← putNew_put γ news aV oi.dst v fun n hn t ht => by
          obtain ⟨on, hon⟩ : ∃ o, ops[n]? = some o := ⟨_, Array.getElem?_eq_getElem (hnews n hn).1⟩
          have := ((hV i hiv oi hoi).2.2 n hn on hon).1
          exact (Oper.apart_spec this).2.1 t (by simpa [dstOf, hon] using ht)]
        have hnd_rv : i ∉ xs ∧ i ∉ ys := by
          refine ⟨fun hm => ?_, fun hm => ?_⟩
          · have := hpw'.2.2 i hm i (by simp); omega
          · have := (List.pairwise_cons.1 hpw'.2.1).1 i hm; omega
        refine ih _ _ γ (xs ++ ys) w' (by simpa using hsz) ?_ (hmono _ _ hS hb) (Nat.le_trans hB0 hb.size) (hnw.keep hb) (fun n hn => ?_) (fun n hn => ?_) (closed_set hcl hi) h' ?_ (fun n hn => ?_) (fun n hn => ?_)
        · rw [hsplit] at hf; simp at hf ⊢; omega
        · rw [listed_set (by omega), if_neg (fun (e : n = i) => (hvs i hiv).2.1 (e ▸ hn))]; exact hγ n hn
        · rw [listed_set (by omega), if_neg (fun (e : n = i) => (hvs i hiv).2.2 (e ▸ hn))]; exact hbl n hn
        · rw [List.pairwise_append]
          exact ⟨hpw'.1, (List.pairwise_cons.1 hpw'.2.1).2, fun a ha b hb => hpw'.2.2 a ha b (by simp [hb])⟩
        · rw [listed_set (by omega)]
          by_cases hni : n = i
          · subst hni
            simp [hnd_rv.1, hnd_rv.2]
          · rw [if_neg hni, ← hrv n hn, hsplit]
            simp [hni]
        · exact hrv2 n (by rw [hsplit]; simp only [List.mem_append, List.mem_cons] at hn ⊢; rcases hn with h | h <;> simp [h])
      · -- a new variable
        have hg0 := (hγ i hinw).2 h0'
        obtain ⟨o, ho, hrun⟩ := hnew i hinw (putNew ops γ news aV) w
        rw [hoi] at ho
        cases ho
        have hguard := (hN i hinw oi hoi).2.1
        have hset := putNew_set (ops := ops) γ i w.heap.size news aV hinw hnd hg0 fun j hj hji t ht => by
          obtain ⟨oj, hoj⟩ : ∃ o, ops[j]? = some o := ⟨_, Array.getElem?_eq_getElem (hnews j hj).1⟩
          have := (hN i hinw oi hoi).2.2 j hj hji oj hoj
          have h2 := (Oper.apart_spec this).2.1 t (by simpa [dstOf, hoj] using ht)
          simpa [dstOf, hoi] using h2
        have hbel : Below w.heap.size w (w.alloc (zo i)) := (Below.refl _ _).alloc (Nat.le_refl _) _
        unfold Go.wpOp
        simp only [hoi]
        have hw : Region.wanted oi (yielded ops (putNew ops γ news aV).tmps) = true := by simp [Region.wanted, hguard]
        rw [if_pos hw]
        refine .inl ?_
        unfold Oper.wp
        rw [hrun]
        show wpAny P .any ops Q fuel _ ((putNew ops γ news aV).put oi.dst _) _
        have hd : dstOf ops i = oi.dst := by simp [dstOf, hoi]
        rw [hd] at hset
        rw [← hset]
        refine ih _ aV _ rv _ (by simpa using hsz) ?_ (hmono _ _ hS hbel) (Nat.le_trans hB0 hbel.size) ⟨fun n hn b hb => ?_, fun n hn m hm hnm b c hb hc => ?_⟩ (fun n hn => ?_) (fun n hn => ?_) (closed_set hcl hi) hfl hpw (fun n hn => ?_) hrv2
        · have : (news.filter fun j => (if j = i then some w.heap.size else γ j).isNone).length < (news.filter fun j => (γ j).isNone).length := by
            have h1 : (news.filter fun j => (if j = i then some w.heap.size else γ j).isNone) = (news.filter fun j => (γ j).isNone).filter fun j => decide (j ≠ i) := by
              rw [List.filter_filter]
              refine List.filter_congr fun j _ => ?_
              by_cases hji : j = i <;> simp [hji]
            rw [h1]
            refine List.length_filter_lt_length_iff_exists.2 ⟨i, List.mem_filter.2 ⟨hinw, by simp [hg0]⟩, by simp⟩
          omega
        · by_cases hni : n = i
          · subst hni
            simp only [if_true, Option.some.injEq] at hb
            subst hb
            exact ⟨Blk.new _ _, hB0⟩
          · rw [if_neg hni] at hb
            exact ⟨(hnw.blk n hn b hb).1.old _, (hnw.blk n hn b hb).2⟩
        · by_cases hni : n = i
          · subst hni
            rw [if_neg (Ne.symm hnm)] at hc
            simp only [if_true, Option.some.injEq] at hb
            have := ((hnw.blk m hm c hc).1).lt
            omega
          · rw [if_neg hni] at hb
            by_cases hmi : m = i
            · subst hmi
              simp only [if_true, Option.some.injEq] at hc
              have := ((hnw.blk n hn b hb).1).lt
              omega
            · rw [if_neg hmi] at hc
              exact hnw.apart n hn m hm hnm b c hb hc
        · rw [listed_set (by omega)]
          by_cases hni : n = i
          · simp [hni]
          · rw [if_neg hni, if_neg hni]; exact hγ n hn
        · rw [listed_set (by omega), if_neg (fun (e : n = i) => (hnews i hinw).2 (e ▸ hn))]; exact hbl n hn
        · rw [listed_set (by omega), if_neg (fun (e : n = i) => (hvs n hn).2.1 (e ▸ hinw))]; exact hrv n hn
      · -- the end waits for x
        exfalso
        obtain ⟨k, hk⟩ := List.getElem?_of_mem hib
        have hw := (hB k i hk oi hoi).2 x (by rcases hx with h | h <;> simp [h])
        have := waits_listed hcl ops.size i x oi hoi hdeps hw
        rw [hxl] at this
        cases this

/-- THE LAW: the values are walked once, in the order of the text (vs); then, whatever blocks the new variables have, the end (bs), one behind the other. -/
theorem wp_region_flow_vars {id : Nat} {a : Act} {w : World} (S : World → Prop) (vs news bs : List Nat) (zo : Nat → Obj) (hm : P.follows .mixedOrders = true) (hs : Region.noSelect ops = true) (hok : partsOk ops vs news bs = true)
    (hbnd : bs.Nodup) (hmono : Stays S) (hS : S w.drew)
    (hnew : ∀ i ∈ news, ∀ (a : Act) (w : World), ∃ o, ops[i]? = some o ∧ (execOp a.eval o).run P w = .ok (.value (.pointer (some ⟨w.heap.size, 0, none⟩))) (w.alloc (zo i)))
    (hlen : vs.length + news.length + bs.length ≤ ops.size)
    (h : FlowN P ops S (fun a' => ∀ (γ : Nat → Option Nat) (w' : World), S w' → News news w.heap.size zo γ w' → (∀ i ∈ news, γ i ≠ none) → wpOps P ops Q bs (putNew ops γ news a') w') vs a) : (Code.region id ops true).wp P Q a w := by
  obtain ⟨hall, hvs, hnews, hbs, hlt, hnd, hV, hN, hB⟩ := partsOk_spec hok
  refine wp_region_any hm ?_
  have hnone : putNew ops (fun _ => none) news a = a := by
    have : ∀ l : List Nat, putNew ops (fun _ => none) l a = a := fun l => by
      induction l with
      | nil => rfl
      | cons i r ih => exact ih
    exact this news
  have hl0 : ∀ i, (Array.replicate ops.size false).getD i false = false := fun i => by
    by_cases hi : i < ops.size <;> simp [hi]
  have := wpAny_vars (Q := Q) hmono (Region.noSelect_spec hs) hok hbnd (B0 := w.heap.size) hnew (fun a γ w' hd hS hn hg => hd γ w' hS hn hg) ops.size (Array.replicate ops.size false) a (fun _ => none) vs w.drew (by simp)
    (by have : (news.filter fun _ => true) = news := List.filter_eq_self.2 (by simp)
        simp only [Option.isNone_none, this]; exact hlen) hS (Nat.le_refl _) ⟨fun _ _ _ h => (by cases h), fun _ _ _ _ _ _ _ h => (by cases h)⟩ (fun i _ => by simp [hl0]) (fun i _ => hl0 i)
    (fun i o e hi => by rw [hl0] at hi; cases hi) h hlt (fun i hi => by simp [hl0, hi]) (fun i hi => hi)
  rw [hnone] at this
  exact this

/-- The operations of these numbers, written out. -/
def sel (ops : Array Oper) (vs : List Nat) : List Oper := vs.filterMap fun i => ops[i]?
theorem flowN_sel {D : Act → Prop} : ∀ (vs : List Nat) (a : Act), (∀ i ∈ vs, i < ops.size) → Flow P ops S D (sel ops vs) a → FlowN P ops S D vs a
  | [], _, _, h => h
  | i :: r, a, hin, h => by
    have hi := hin i (by simp)
    have hs : sel ops (i :: r) = ops[i] :: sel ops r := by
      unfold sel
      rw [List.filterMap_cons, Array.getElem?_eq_getElem hi]
    rw [hs] at h
    obtain ⟨v, hv, h⟩ := h
    exact ⟨_, v, Array.getElem?_eq_getElem hi, hv, flowN_sel r _ (fun j hj => hin j (List.mem_cons_of_mem _ hj)) h⟩
theorem wpOps_step {i : Nat} {rest : List Nat} {o : Oper} {a : Act} {w : World} (hi : ops[i]? = some o) (hw : Region.wanted o (yielded ops a.tmps) = true) (h : o.wp P a w (wpOps P ops Q rest) Q) : wpOps P ops Q (i :: rest) a w := by
  unfold wpOps
  simp only [hi, hw, if_true]
  exact .inl h
theorem wpOps_done {a : Act} {w : World} (h : Q .normal a w) : wpOps P ops Q [] a w := h
end
end Go.Proofs.Ytioeaknhcfkfcaa
