/-
  A third law of this seat's own on regions that draw their order: of each operation it is known what its result is like (a condition that stays, whatever is made besides), not which value it is: so calls may hand back memory that they made, whose place hangs on the order. The end is walked one behind the other.
  As FlowP, where some pure operations (ps) are not waited for by the end: they may come up behind it; they are taken as soon as they are ready.
  A piece, a joiner, and its small calls.
  A joiner: whether a body is next, whether it is over, its end.
  A joiner with its parts: how many bytes are there, how many pieces.
-/
import Derived.Test.YtioeaknhcfkfcaaBu02
import Derived.Laws.Rows
import Derived.BigQuiet
namespace Go.Proofs.Ytioeaknhcfkfcaa
open Go.RowKit

section
variable {P : Program} {ops : Array Oper} {Q : Exit → Act → World → Prop} {S : World → Prop}

/-- What a run, begun in world w, comes to: a value that meets V; all that was in memory is as it was. -/
def PredRun (P : Program) (w : World) (V : World → Value → Prop) : Result Next → Prop
  | .ok (.value u) w' => V w' u ∧ Below w.heap.size w w'
  | .ok (.enter f args) w' => w' = w ∧ Calls P f args w (fun e w'' => ∃ v, e = .returned v ∧ V w'' v ∧ Below w.heap.size w w'')
  | _ => False

def PredOp (P : Program) (ops : Array Oper) (o : Oper) (V : World → Value → Prop) (a : Act) (w : World) : Prop :=
  (Region.wanted o (yielded ops a.tmps) = true ∧ PredRun P w V ((execOp a.eval o).run P w)) ∨ (Region.wanted o (yielded ops a.tmps) = false ∧ V w undef)

theorem PredOp.of_same {o : Oper} {V : World → Value → Prop} {a a' : Act} {w : World} (hy : PredOp P ops o V a w) (he : execOp a'.eval o = execOp a.eval o)
    (hw : Region.wanted o (yielded ops a'.tmps) = Region.wanted o (yielded ops a.tmps)) : PredOp P ops o V a' w := by
  unfold PredOp at *
  rw [he, hw]
  exact hy

theorem PredOp.wpOp {i : Nat} {o : Oper} {V : World → Value → Prop} {a : Act} (hi : ops[i]? = some o) {K : Act → World → Prop} {w : World} (hy : PredOp P ops o V a w)
    (h : ∀ v w', V w' v → Below w.heap.size w w' → K (a.put o.dst v) w') : wpOp P ops Q i K a w := by
  unfold Go.wpOp
  simp only [hi]
  rcases hy with ⟨hw, hg⟩ | ⟨hw, hv⟩
  · simp only [hw, if_true, Oper.wp]
    generalize (execOp a.eval o).run P w = r at hg
    refine .inl ?_
    cases r with
    | ok n w' =>
      cases n with
      | value u => exact h _ _ hg.1 hg.2
      | enter f args =>
        obtain ⟨rfl, hg⟩ := hg
        refine Calls.mono hg fun e w'' he => ?_
        obtain ⟨v, rfl, hv, hb⟩ := he
        exact h _ _ hv hb
      | _ => exact hg.elim
    | halt x w' => exact hg.elim
  · simp only [hw, Bool.false_eq_true, if_false]
    exact h _ _ hv (Below.refl _ _)

/-- The values that have come, in their slots. -/
def putD (ops : Array Oper) (γ : Nat → Value) : List Nat → Act → Act
  | [], a => a
  | i :: r, a => putD ops γ r (a.put (dstOf ops i) (γ i))
theorem putD_append (γ : Nat → Value) : ∀ (l m : List Nat) (a : Act), putD ops γ (l ++ m) a = putD ops γ m (putD ops γ l a)
  | [], _, _ => rfl
  | i :: r, m, a => putD_append γ r m _
theorem putD_congr {γ γ' : Nat → Value} : ∀ (l : List Nat) (a : Act), (∀ i ∈ l, γ i = γ' i) → putD ops γ l a = putD ops γ' l a
  | [], _, _ => rfl
  | i :: r, a, h => by
    unfold putD
    rw [h i (by simp)]
    exact putD_congr r _ fun j hj => h j (List.mem_cons_of_mem _ hj)
theorem putD_perm (γ : Nat → Value) {l m : List Nat} (hp : l.Perm m) : (∀ x ∈ l, ∀ y ∈ l, x ≠ y → ∀ t, dstOf ops x = some t → dstOf ops y ≠ some t) → ∀ a : Act, putD ops γ l a = putD ops γ m a := by
  induction hp with
  | nil => exact fun _ _ => rfl
  | cons x _ ih => exact fun h a => ih (fun y hy z hz => h y (List.mem_cons_of_mem _ hy) z (List.mem_cons_of_mem _ hz)) _
  | swap x y l =>
    intro h a
    unfold putD
    unfold putD
    by_cases hxy : x = y
    · subst hxy; rfl
    · rw [put_same_apart (γ y) (γ x) (h y (by simp) x (by simp) (Ne.symm hxy))]
  | trans h1 _ ih1 ih2 => exact fun h a => (ih1 h a).trans (ih2 (fun x hx y hy => h x (h1.mem_iff.2 hx) y (h1.mem_iff.2 hy)) a)
theorem same_putD (γ : Nat → Value) (o : Oper) (hs : ∀ cs b, o.op ≠ .select cs b) : ∀ (l : List Nat) (a : Act), (∀ i ∈ l, ∀ t, dstOf ops i = some t → t ∉ o.looksAt ops) →
    execOp (putD ops γ l a).eval o = execOp a.eval o ∧ Region.wanted o (yielded ops (putD ops γ l a).tmps) = Region.wanted o (yielded ops a.tmps)
  | [], _, _ => ⟨rfl, rfl⟩
  | i :: r, a, h => by
    obtain ⟨h1, h2⟩ := same_putD γ o hs r (a.put (dstOf ops i) (γ i)) fun j hj => h j (List.mem_cons_of_mem _ hj)
    unfold putD
    exact ⟨h1.trans (execOp_put o hs a _ _ (h i (by simp))), h2.trans (wanted_put o a _ _ (h i (by simp)))⟩

/-- For which of vs number i waits. -/
def depsOf (ops : Array Oper) (vs : List Nat) (i : Nat) : List Nat := vs.filter fun x => match ops[i]? with | some o => o.after.any fun e => Region.binds .any e && e.on == x | none => false
theorem mem_depsOf {vs : List Nat} {i x : Nat} {o : Oper} (ho : ops[i]? = some o) : x ∈ depsOf ops vs i ↔ x ∈ vs ∧ ∃ e ∈ o.after, Region.binds .any e = true ∧ e.on = x := by
  unfold depsOf
  rw [List.mem_filter, ho]
  simp only [Array.any_eq_true', Bool.and_eq_true, beq_iff_eq]
/-- The slots that are written are different ones. -/
def dstsOk (ops : Array Oper) (vs : List Nat) : Bool := vs.all fun x => vs.all fun y => x == y || match dstOf ops x, dstOf ops y with | some s, some t => s != t | _, _ => true
theorem dstsOk_spec {vs : List Nat} (h : dstsOk ops vs = true) : ∀ x ∈ vs, ∀ y ∈ vs, x ≠ y → ∀ t, dstOf ops x = some t → dstOf ops y ≠ some t := by
  intro x hx y hy hne t ht ht2
  unfold dstsOk at h
  simp only [List.all_eq_true, Bool.or_eq_true, beq_iff_eq] at h
  rcases h x hx y hy with h | h
  · exact hne h
  · rw [ht, ht2] at h
    simp at h

theorem wpAny_pred (hmono : Stays S) (hs : ∀ (j : Nat) (o : Oper) cs b, ops[j]? = some o → o.op ≠ .select cs b) {vs bs : List Nat} (hok : partsOk ops vs [] bs = true) (hdst : dstsOk ops vs = true) (hbnd : bs.Nodup)
    {Φ : Nat → World → Value → Prop} (hΦ : ∀ i w w' v, Φ i w v → Below w.heap.size w w' → Φ i w' v) {a0 : Act}
    (need : ∀ i ∈ vs, ∀ (γ : Nat → Value) (w : World), S w → (∀ d ∈ depsOf ops vs i, Φ d w (γ d)) → ∃ o, ops[i]? = some o ∧ PredOp P ops o (Φ i) (putD ops γ (depsOf ops vs i) a0) w)
    (hD : ∀ (γ : Nat → Value) (w : World), S w → (∀ i ∈ vs, Φ i w (γ i)) → wpOps P ops Q bs (putD ops γ vs a0) w) :
    ∀ (fuel : Nat) (listed : Array Bool) (γ : Nat → Value) (L : List Nat) (w : World), listed.size = ops.size → L.Nodup → (∀ i ∈ L, i ∈ vs) → (∀ i ∈ vs, i ∈ L ↔ listed.getD i false = true) → (∀ i ∈ bs, listed.getD i false = false) →
      Closed ops listed → (vs.filter fun i => !L.contains i).length + bs.length ≤ fuel → S w → (∀ i ∈ L, Φ i w (γ i)) → wpAny P .any ops Q fuel listed (putD ops γ L a0) w := by
  obtain ⟨hall, hvs, _, hbs, hlt, _, hV, _, hB⟩ := partsOk_spec hok
  have hnd : vs.Nodup := hlt.imp fun h => by omega
  have hdd := dstsOk_spec hdst
  -- where all of vs have come up
  have hend : ∀ (fuel : Nat) (listed : Array Bool) (γ : Nat → Value) (L : List Nat) (w : World), listed.size = ops.size → L.Nodup → (∀ i ∈ L, i ∈ vs) → (∀ i ∈ vs, i ∈ L ↔ listed.getD i false = true) → (∀ i ∈ bs, listed.getD i false = false) →
      bs.length ≤ fuel → S w → (∀ i ∈ L, Φ i w (γ i)) → (∀ i ∈ vs, i ∈ L) → wpAny P .any ops Q fuel listed (putD ops γ L a0) w := by
    intro fuel listed γ L w hsz hLn hLv hl hbl hf hS hg hfull
    have hp : L.Perm vs := (List.perm_ext_iff_of_nodup hLn hnd).2 fun x => ⟨hLv x, hfull x⟩
    rw [putD_perm γ hp (fun x hx y hy => hdd x (hLv x hx) y (hLv y hy)) a0]
    refine wpAny_end hok bs 0 fuel listed _ w rfl hsz hf hbnd (fun i hi => ?_) (hD γ w hS fun i hi => hg i (hfull i hi))
    rcases hall i hi with h | h | h
    · exact ⟨fun _ hib => (hvs i h).2.2 hib, fun _ => (hl i h).1 (hfull i h)⟩
    · cases h
    · exact ⟨fun ht => (by rw [hbl i h] at ht; cases ht), fun hn => absurd h hn⟩
  intro fuel
  induction fuel with
  | zero =>
    intro listed γ L w hsz hLn hLv hl hbl _ hf hS hg
    have h0 : (vs.filter fun i => !L.contains i) = [] := List.length_eq_zero_iff.1 (by omega)
    refine hend 0 listed γ L w hsz hLn hLv hl hbl (by omega) hS hg fun i hi => ?_
    have := List.filter_eq_nil_iff.1 h0 i hi
    simpa using this
  | succ fuel ih =>
    intro listed γ L w hsz hLn hLv hl hbl hcl hf hS hg
    by_cases hfull : ∀ i ∈ vs, i ∈ L
    · exact hend _ listed γ L w hsz hLn hLv hl hbl (by omega) hS hg hfull
    refine ⟨fun hr => ?_, fun i hi => ?_⟩
    · -- something is ready
      exfalso
      apply hfull
      have : ∀ n i, i ≤ n → i ∈ vs → i ∈ L := by
        intro n
        induction n with
        | zero =>
          intro i hin hi
          false_or_by_contra
          rename_i hiL
          have hio := Array.getElem?_eq_getElem (hvs i hi).1
          have hm : i ∈ Region.ready .any ops listed := mem_ready.2 ⟨by rw [getD_flip (by rw [hsz]; exact (hvs i hi).1)]; have := fun h => hiL ((hl i hi).2 h); simpa using this, _, hio, fun e he hb => by
            have := ((hV i hi _ hio).1 e he hb).2
            omega⟩
          rw [hr] at hm
          cases hm
        | succ n ihn =>
          intro i hin hi
          false_or_by_contra
          rename_i hiL
          have hio := Array.getElem?_eq_getElem (hvs i hi).1
          have hm : i ∈ Region.ready .any ops listed := mem_ready.2 ⟨by rw [getD_flip (by rw [hsz]; exact (hvs i hi).1)]; have := fun h => hiL ((hl i hi).2 h); simpa using this, _, hio, fun e he hb => by
            obtain ⟨h1, h2⟩ := (hV i hi _ hio).1 e he hb
            have := (hl e.on h1).1 (ihn e.on (by omega) h1)
            exact this⟩
          rw [hr] at hm
          cases hm
      exact fun i hi => this i i (Nat.le_refl _) hi
    · obtain ⟨h0, oi, hoi, hdeps⟩ := mem_ready.1 hi
      have hin : i < ops.size := (Array.getElem?_eq_some_iff.1 hoi).1
      have h0' : listed.getD i false = false := by rw [← getD_flip (by rw [hsz]; exact hin)]; exact h0
      rcases hall i hin with hiv | hiv | hib
      · have hiL : i ∉ L := fun h => by rw [(hl i hiv).1 h] at h0'; cases h0'
        have hdL : ∀ d ∈ depsOf ops vs i, d ∈ L := fun d hd => by
          obtain ⟨hdv, e, he, hb, heq⟩ := (mem_depsOf hoi).1 hd
          have := hdeps e he hb
          rw [heq] at this
          exact (hl d hdv).2 this
        obtain ⟨o, ho, hop⟩ := need i hiv γ w hS fun d hd => hg d (hdL d hd)
        rw [hoi] at ho
        cases ho
        -- what has come up besides does not matter
        have hp : L.Perm (depsOf ops vs i ++ L.filter fun x => !(depsOf ops vs i).contains x) := by
          have h1 := (List.filter_append_perm (fun x => (depsOf ops vs i).contains x) L).symm
          refine h1.trans (List.Perm.append_right _ ?_)
          refine (List.perm_ext_iff_of_nodup (hLn.filter _) (hnd.filter _)).2 fun x => ?_
          rw [List.mem_filter]
          simp only [List.contains_eq_mem, decide_eq_true_eq]
          exact ⟨fun h => h.2, fun h => ⟨hdL x h, h⟩⟩
        have hput : putD ops γ L a0 = putD ops γ (L.filter fun x => !(depsOf ops vs i).contains x) (putD ops γ (depsOf ops vs i) a0) := by
          rw [putD_perm γ hp (fun x hx y hy => hdd x (hLv x hx) y (hLv y hy)) a0, putD_append]
        have hsame := same_putD (ops := ops) γ oi (fun cs b => hs i oi cs b hoi) (L.filter fun x => !(depsOf ops vs i).contains x) (putD ops γ (depsOf ops vs i) a0) fun x hx t ht => by
          obtain ⟨hxL, hxd⟩ := List.mem_filter.1 hx
          have hxv := hLv x hxL
          have hxo := Array.getElem?_eq_getElem (hvs x hxv).1
          have hxd' : x ∉ depsOf ops vs i := by simpa using hxd
          have hdx : (ops[x]'(hvs x hxv).1).dst = some t := by
            unfold dstOf at ht
            rw [hxo] at ht
            exact ht
          have hno : ∀ e ∈ oi.after, Region.binds .any e = true → e.on ≠ x := fun e he hb heq => hxd' ((mem_depsOf hoi).2 ⟨hxv, e, he, hb, heq⟩)
          have hne : x ≠ i := fun e => hiL (e ▸ hxL)
          rcases Nat.lt_or_gt_of_ne hne with hxi | hxi
          · exact (Oper.apart_spec ((hV i hiv oi hoi).2.1 x hxv hxi _ hxo hno)).1 t hdx
          · have hap := (hV x hxv _ hxo).2.1 i hiv hxi oi hoi fun e he hb heq => by
              have := hcl x _ e ((hl x hxv).1 hxL) hxo he hb
              rw [heq, h0'] at this
              cases this
            exact (Oper.apart_spec hap).2.2 t hdx
        rw [hput]
        refine (hop.of_same hsame.1 hsame.2).wpOp hoi fun v w' hv hb => ?_
        rw [← hput]
        have hγ : (putD ops γ L a0).put oi.dst v = putD ops (fun k => if k = i then v else γ k) (L ++ [i]) a0 := by
          rw [putD_append, putD_congr (γ := fun k => if k = i then v else γ k) (γ' := γ) L a0 fun k hk => (if_neg (fun e : k = i => hiL (e ▸ hk)) : (if k = i then v else γ k) = γ k)]
          show (putD ops γ L a0).put oi.dst v = (putD ops γ L a0).put (dstOf ops i) (if i = i then v else γ i)
          rw [if_pos rfl]
          unfold dstOf
          rw [hoi]
          rfl
        rw [hγ]
        refine ih _ _ _ _ (by simpa using hsz) ?_ ?_ ?_ ?_ (closed_set hcl hi) ?_ (hmono _ _ hS hb) ?_
        · rw [List.nodup_append]
          exact ⟨hLn, by simp, fun x hx y hy e => by simp at hy; exact hiL (hy ▸ e ▸ hx)⟩
        · intro x hx
          rcases List.mem_append.1 hx with h | h
          · exact hLv x h
          · simp at h; exact h ▸ hiv
        · intro x hx
          rw [listed_set (by rw [hsz]; exact hin), List.mem_append]
          by_cases hxi : x = i
          · subst hxi; simp
          · rw [if_neg hxi, ← hl x hx]; simp [hxi]
        · intro x hx
          have hxi : x ≠ i := fun e => (hvs i hiv).2.2 (e ▸ hx)
          rw [listed_set (by rw [hsz]; exact hin), if_neg hxi]
          exact hbl x hx
        · have hlen : (vs.filter fun x => !(L ++ [i]).contains x).length < (vs.filter fun x => !L.contains x).length := by
            have hsub : (vs.filter fun x => !(L ++ [i]).contains x) = (vs.filter fun x => !L.contains x).filter fun x => x != i := by
              rw [List.filter_filter]
              congr 1
              funext x
              simp only [List.contains_eq_mem, List.mem_append, List.mem_singleton]
              by_cases h1 : x ∈ L <;> by_cases h2 : x = i <;> simp [h1, h2]
            rw [hsub]
            refine List.length_filter_lt_length_iff_exists.2 ⟨i, List.mem_filter.2 ⟨hiv, by simpa using hiL⟩, by simp⟩
          omega
        · intro x hx
          rcases List.mem_append.1 hx with h | h
          · have hxi : x ≠ i := fun e => hiL (e ▸ h)
            show Φ x w' (if x = i then v else γ x)
            rw [if_neg hxi]
            exact hΦ x w w' _ (hg x h) hb
          · simp at h
            subst h
            show Φ x w' (if x = x then v else γ x)
            rw [if_pos rfl]
            exact hv
      · cases hiv
      · exfalso
        apply hfull
        intro x hx
        obtain ⟨k, hk⟩ := List.getElem?_of_mem hib
        have hw := (hB k i hk oi hoi).2 x (.inl hx)
        exact (hl x hx).2 (waits_listed hcl ops.size i x oi hoi hdeps hw)

/-- The values that have come, in the slots that are named. -/
def putE (γ : Nat → Value) : List (Nat × Option Tmp) → Act → Act
  | [], a => a
  | p :: r, a => putE γ r (a.put p.2 (γ p.1))
theorem putE_eq (γ : Nat → Value) : ∀ (l : List Nat) (a : Act), putE γ (l.map fun d => (d, dstOf ops d)) a = putD ops γ l a
  | [], _ => rfl
  | _ :: r, _ => putE_eq γ r _
/-- All that is known of these values. -/
def AllE (Φ : Nat → World → Value → Prop) (γ : Nat → Value) (w : World) : List (Nat × Option Tmp) → Prop
  | [] => True
  | [p] => Φ p.1 w (γ p.1)
  | p :: r => Φ p.1 w (γ p.1) ∧ AllE Φ γ w r
theorem allE_eq {Φ : Nat → World → Value → Prop} {γ : Nat → Value} {w : World} : ∀ l : List Nat, (∀ d ∈ l, Φ d w (γ d)) → AllE Φ γ w (l.map fun d => (d, dstOf ops d))
  | [], _ => trivial
  | [d], h => h d (by simp)
  | d :: e :: r, h => ⟨h d (by simp), allE_eq (e :: r) fun x hx => h x (List.mem_cons_of_mem _ hx)⟩
/-- What is to be shown of the operations, one by one: each with what it waits for. -/
def NeedE (P : Program) (ops : Array Oper) (S : World → Prop) (Φ : Nat → World → Value → Prop) (a0 : Act) : List Nat → List (List (Nat × Option Tmp)) → Prop
  | i :: r, d :: ds => (∀ (γ : Nat → Value) (w : World), S w → AllE Φ γ w d → ∃ o, ops[i]? = some o ∧ PredOp P ops o (Φ i) (putE γ d a0) w) ∧ NeedE P ops S Φ a0 r ds
  | _, _ => True
theorem needE_at {vs : List Nat} {Φ : Nat → World → Value → Prop} {a0 : Act} : ∀ l : List Nat, NeedE P ops S Φ a0 l (l.map fun i => (depsOf ops vs i).map fun d => (d, dstOf ops d)) → ∀ i ∈ l, ∀ (γ : Nat → Value) (w : World), S w → (∀ d ∈ depsOf ops vs i, Φ d w (γ d)) → ∃ o, ops[i]? = some o ∧ PredOp P ops o (Φ i) (putD ops γ (depsOf ops vs i) a0) w
  | [], _, _, hi => by cases hi
  | j :: r, h, i, hi => by
    rcases List.mem_cons.1 hi with rfl | hi
    · intro γ w hS hd
      obtain ⟨o, ho, hp⟩ := h.1 γ w hS (allE_eq _ hd)
      rw [putE_eq] at hp
      exact ⟨o, ho, hp⟩
    · exact needE_at r h.2 i hi

/-- As partsOk, without new variables; the end waits for all by edges of its own (so it is seen without going through all that it waits for). -/
def partsOkD (ops : Array Oper) (vs bs : List Nat) : Bool :=
  ((List.range ops.size).all fun i => vs.contains i || ([] : List Nat).contains i || bs.contains i) &&
  (vs.all fun i => decide (i < ops.size) && !([] : List Nat).contains i && !bs.contains i) && (([] : List Nat).all fun i => decide (i < ops.size) && !bs.contains i) && (bs.all fun i => decide (i < ops.size)) &&
  decide (vs.Pairwise (· < ·)) && decide (([] : List Nat).Nodup) &&
  (vs.all fun j => match ops[j]? with
    | some oj => (oj.after.all fun e => !Region.binds .any e || (vs.contains e.on && decide (e.on < j))) &&
        (vs.all fun i => !decide (i < j) || (oj.after.any fun e => Region.binds .any e && e.on == i) || (match ops[i]? with | some oi => oi.apart ops oj | none => false)) &&
        (([] : List Nat).all fun i => match ops[i]? with | some oi => oi.apart ops oj && oj.apart ops oi | none => false)
    | none => false) &&
  (([] : List Nat).all fun j => match ops[j]? with
    | some oj => (oj.after.all fun e => !Region.binds .any e) && oj.guard.isNone && (([] : List Nat).all fun i => i == j || (match ops[i]? with | some oi => oi.apart ops oj | none => false))
    | none => false) &&
  (bs.zipIdx.all fun (j, k) => match ops[j]? with
    | some oj => (oj.after.all fun e => !Region.binds .any e || vs.contains e.on || ([] : List Nat).contains e.on || (bs.take k).contains e.on) &&
        ((vs ++ [] ++ bs.take k).all fun x => oj.after.any fun e => Region.binds .any e && e.on == x)
    | none => false)
theorem partsOk_of_direct {vs bs : List Nat} (h : partsOkD ops vs bs = true) : partsOk ops vs [] bs = true := by
  unfold partsOkD at h
  unfold partsOk
  rw [Bool.and_eq_true] at h ⊢
  refine ⟨h.1, ?_⟩
  have h2 := h.2
  rw [List.all_eq_true] at h2 ⊢
  intro q hq
  have h3 := h2 q hq
  obtain ⟨j, k⟩ := q
  simp only at h3 ⊢
  cases ho : ops[j]? with
  | none => rw [ho] at h3; exact h3
  | some oj =>
    rw [ho] at h3
    simp only [Bool.and_eq_true] at h3 ⊢
    refine ⟨h3.1, ?_⟩
    have h4 := h3.2
    rw [List.all_eq_true] at h4 ⊢
    intro x hx
    have h5 := h4 x hx
    have hsz : ops.size = (ops.size - 1) + 1 := by
      have := (Array.getElem?_eq_some_iff.1 ho).1
      omega
    rw [hsz]
    unfold waits
    rw [ho]
    simp only [Array.any_eq_true', Bool.and_eq_true, Bool.or_eq_true] at h5 ⊢
    obtain ⟨e, he, hb, hx⟩ := h5
    exact ⟨e, he, hb, .inl hx⟩

/-- THE LAW. -/
theorem wp_region_pred {id : Nat} {a : Act} {w : World} (S : World → Prop) (vs bs : List Nat) (Φ : Nat → World → Value → Prop) (dl : List (List (Nat × Option Tmp))) (al : List (Nat × Option Tmp)) (hm : P.follows .mixedOrders = true) (hs : Region.noSelect ops = true) (hok : partsOkD ops vs bs = true) (hdst : dstsOk ops vs = true)
    (hdl : (vs.map fun i => (depsOf ops vs i).map fun d => (d, dstOf ops d)) = dl) (hal : (vs.map fun d => (d, dstOf ops d)) = al) (hbnd : bs.Nodup) (hlen : vs.length + bs.length ≤ ops.size) (hmono : Stays S) (hΦ : ∀ i w w' v, Φ i w v → Below w.heap.size w w' → Φ i w' v) (hS : S w.drew)
    (need : NeedE P ops S Φ a vs dl)
    (hD : ∀ (γ : Nat → Value) (w : World), S w → AllE Φ γ w al → wpOps P ops Q bs (putE γ al a) w) : (Code.region id ops true).wp P Q a w := by
  have hl0 : ∀ i, (Array.replicate ops.size false).getD i false = false := fun i => by
    by_cases hi : i < ops.size <;> simp [hi]
  subst hdl hal
  refine wp_region_any hm ?_
  exact wpAny_pred (Q := Q) hmono (Region.noSelect_spec hs) (partsOk_of_direct hok) hdst hbnd hΦ (fun i hi γ wx hSx h => needE_at vs need i hi γ wx hSx h) (fun γ wx hSx h => by rw [← putE_eq]; exact hD γ wx hSx (allE_eq _ h))
    ops.size (Array.replicate ops.size false) (fun _ => undef) [] w.drew (by simp) (by simp) (fun i hi => by cases hi) (fun i _ => by simp [hl0]) (fun i _ => hl0 i)
    (fun i o e hi => by rw [hl0] at hi; cases hi) (Nat.le_trans (Nat.add_le_add_right (List.length_filter_le _ _) _) hlen) hS (fun i hi => by cases hi)
theorem predRun_value {w : World} {V : World → Value → Prop} {r : Result Next} {v : Value} (h : r = .ok (.value v) w) (hv : V w v) : PredRun P w V r := by
  rw [h]
  exact ⟨hv, Below.refl _ _⟩
theorem predRun_new {w w' : World} {V : World → Value → Prop} {r : Result Next} {v : Value} (h : r = .ok (.value v) w') (hb : Below w.heap.size w w') (hv : V w' v) : PredRun P w V r := by
  rw [h]
  exact ⟨hv, hb⟩
theorem predRun_call {w : World} {V : World → Value → Prop} {r : Result Next} {f : FuncId} {args : Array Value} (h : r = .ok (.enter f args) w) (hc : Calls P f args w (fun e w'' => ∃ v, e = .returned v ∧ V w'' v ∧ Below w.heap.size w w'')) : PredRun P w V r := by
  rw [h]
  exact ⟨rfl, hc⟩
theorem exec_load_blk {o : Oper} {a : Act} {w : World} (ty : TypeId) (x : Operand) (ho : o.op = .load ty x)
    (g : Nat) (hx : a.eval x = .pointer (some ⟨g, 0, none⟩)) (t : TypeId) (cs : Array Value) (fr : Nat × Nat) (d : TypeDesc) (hg : w.heap[g]? = some (.cells cs t fr))
    (hu : P.underlying ty = some d) (hd : (match d with | .struct _ | .array _ _ => true | _ => false) = true) (hi : (P.info? ty).map (·.size) = some cs.size) :
    (execOp a.eval o).run P w = .ok (.value (.agg cs)) w := by
  unfold execOp
  simp only [ho, hx, Instr.loadAt, Instr.sureAddr, Sem.run_bind, Sem.run_pure, Result.andThen_ok, run_loadVar_row w g t ty cs fr d hg hu hd hi]
end
end Go.Proofs.Ytioeaknhcfkfcaa

namespace Go.Proofs.Ytioeaknhcfkfcaa
open Go.RowKit

section
variable {P : Program} {ops : Array Oper} {Q : Exit → Act → World → Prop} {S : World → Prop}

/-- oj waits for number x by an edge of its own. -/
def direct (oj : Oper) (x : Nat) : Bool := oj.after.any fun e => Region.binds .any e && e.on == x
theorem direct_spec {oj : Oper} {x : Nat} : direct oj x = true ↔ ∃ e ∈ oj.after, Region.binds .any e = true ∧ e.on = x := by
  unfold direct
  simp only [Array.any_eq_true', Bool.and_eq_true, beq_iff_eq]
def vsOk (ops : Array Oper) (vs : List Nat) (j : Nat) : Bool := match ops[j]? with
  | some oj => (oj.after.all fun e => !Region.binds .any e || (vs.contains e.on && decide (e.on < j))) &&
      (vs.all fun i => !decide (i < j) || direct oj i || (match ops[i]? with | some oi => oi.apart ops oj | none => false))
  | none => false
def bsOk (ops : Array Oper) (vs ps bs : List Nat) (j k : Nat) : Bool := match ops[j]? with
  | some oj => (oj.after.all fun e => !Region.binds .any e || vs.contains e.on || (bs.take k).contains e.on) && ((bs.take k).all fun x => direct oj x) &&
      (vs.all fun x => direct oj x || (ps.contains x && (depsOf ops vs x).all fun d => direct oj d))
  | none => false
def freeOk (ops : Array Oper) (i : Nat) : Bool := (List.range ops.size).all fun j => j == i || match ops[i]?, ops[j]? with | some oi, some oj => direct oj i || direct oi j || oi.apart ops oj | _, _ => false
def partsOkQ (ops : Array Oper) (vs ps bs : List Nat) : Bool :=
  ((List.range ops.size).all fun i => vs.contains i || bs.contains i) && (vs.all fun i => decide (i < ops.size) && !bs.contains i) && (bs.all fun i => decide (i < ops.size)) && decide (vs.Pairwise (· < ·)) && (ps.all fun i => vs.contains i) &&
  (vs.all fun j => vsOk ops vs j) && (bs.zipIdx.all fun q => bsOk ops vs ps bs q.1 q.2) && (ps.all fun i => freeOk ops i)
structure PartsQ (ops : Array Oper) (vs ps bs : List Nat) : Prop where
  all : ∀ i, i < ops.size → i ∈ vs ∨ i ∈ bs
  v : ∀ i ∈ vs, i < ops.size ∧ i ∉ bs
  b : ∀ i ∈ bs, i < ops.size
  lt : vs.Pairwise (· < ·)
  p : ∀ i ∈ ps, i ∈ vs
  vd : ∀ j ∈ vs, ∀ oj, ops[j]? = some oj → (∀ e ∈ oj.after, Region.binds .any e = true → e.on ∈ vs ∧ e.on < j) ∧ (∀ i ∈ vs, i < j → ∀ oi, ops[i]? = some oi → (∀ e ∈ oj.after, Region.binds .any e = true → e.on ≠ i) → oi.apart ops oj = true)
  bd : ∀ (k j : Nat), bs[k]? = some j → ∀ oj, ops[j]? = some oj → (∀ e ∈ oj.after, Region.binds .any e = true → e.on ∈ vs ∨ e.on ∈ bs.take k) ∧ (∀ x ∈ bs.take k, direct oj x = true) ∧ (∀ x ∈ vs, direct oj x = true ∨ (x ∈ ps ∧ ∀ d ∈ depsOf ops vs x, direct oj d = true))
  free : ∀ i ∈ ps, ∀ oi, ops[i]? = some oi → ∀ j oj, ops[j]? = some oj → j ≠ i → (∀ e ∈ oi.after, Region.binds .any e = true → e.on ≠ j) → (∀ e ∈ oj.after, Region.binds .any e = true → e.on ≠ i) → oi.apart ops oj = true
theorem partsQ_of {vs ps bs : List Nat} (h : partsOkQ ops vs ps bs = true) : PartsQ ops vs ps bs := by
  unfold partsOkQ at h
  simp only [Bool.and_eq_true, List.all_eq_true, decide_eq_true_eq, List.mem_range, Bool.or_eq_true, Bool.not_eq_true', List.contains_eq_mem, decide_eq_false_iff_not] at h
  obtain ⟨⟨⟨⟨⟨⟨⟨h1, h2⟩, h3⟩, h4⟩, h5⟩, h6⟩, h7⟩, h8⟩ := h
  refine ⟨h1, h2, h3, h4, h5, fun j hj oj hoj => ?_, fun k j hk oj hoj => ?_, fun i hi oi hoi j oj hoj hne hnj hno => ?_⟩
  · have h := h6 j hj
    unfold vsOk at h
    rw [hoj] at h
    simp only [Bool.and_eq_true, Array.all_eq_true_iff_forall_mem, List.all_eq_true, Bool.or_eq_true, Bool.not_eq_true', decide_eq_true_eq, decide_eq_false_iff_not, List.contains_eq_mem] at h
    refine ⟨fun e he hb => ?_, fun i hi hij oi hoi hno => ?_⟩
    · rcases h.1 e he with g | g
      · rw [hb] at g; cases g
      · exact g
    · rcases h.2 i hi with (g | g) | g
      · exact absurd hij g
      · obtain ⟨e, he, hb, heq⟩ := direct_spec.1 g
        exact absurd heq (hno e he hb)
      · rw [hoi] at g; exact g
  · have hm : (j, k) ∈ bs.zipIdx := by rw [List.mem_zipIdx_iff_getElem?]; exact hk
    have h := h7 _ hm
    unfold bsOk at h
    simp only [hoj, Bool.and_eq_true, Array.all_eq_true_iff_forall_mem, List.all_eq_true, Bool.or_eq_true, Bool.not_eq_true', decide_eq_true_eq, List.contains_eq_mem] at h
    refine ⟨fun e he hb => ?_, h.1.2, h.2⟩
    rcases h.1.1 e he with (g | g) | g
    · rw [hb] at g; cases g
    · exact .inl g
    · exact .inr g
  · have h := h8 i hi
    unfold freeOk at h
    simp only [List.all_eq_true, List.mem_range, Bool.or_eq_true, beq_iff_eq] at h
    have g := h j (Array.getElem?_eq_some_iff.1 hoj).1
    rw [hoi, hoj] at g
    rcases g with g | g
    · exact absurd g hne
    · simp only [Bool.or_eq_true] at g
      rcases g with (g | g) | g
      · obtain ⟨e, he, hb, heq⟩ := direct_spec.1 g
        exact absurd heq (hno e he hb)
      · obtain ⟨e, he, hb, heq⟩ := direct_spec.1 g
        exact absurd heq (hnj e he hb)
      · exact g

/-- The end: one behind the other. -/
theorem wpAny_endQ {vs ps bs : List Nat} (hok : PartsQ ops vs ps bs) : ∀ (rest : List Nat) (k : Nat) (fuel : Nat) (listed : Array Bool) (a : Act) (w : World),
    bs.drop k = rest → listed.size = ops.size → rest.length ≤ fuel → bs.Nodup → (∀ i, i < ops.size → (listed.getD i false = true ↔ i ∉ rest)) →
    wpOps P ops Q rest a w → wpAny P .any ops Q fuel listed a w := by
  intro rest
  induction rest with
  | nil =>
    intro k fuel listed a w hd hsz hf hbnd hl h
    have hr : Region.ready .any ops listed = [] := by
      rw [List.eq_nil_iff_forall_not_mem]
      intro i hi
      obtain ⟨h0, o, ho, _⟩ := mem_ready.1 hi
      have hin := (Array.getElem?_eq_some_iff.1 ho).1
      have := (hl i hin).2 (by simp)
      rw [getD_flip (by omega)] at h0
      rw [h0] at this
      cases this
    cases fuel with
    | zero => exact ⟨hr, h⟩
    | succ fuel => exact ⟨fun _ => h, by rw [hr]; simp⟩
  | cons j rest ih =>
    intro k fuel listed a w hd hsz hf hbnd hl h
    cases fuel with
    | zero => simp at hf
    | succ fuel =>
      have hk : bs[k]? = some j := by
        have := congrArg (fun l => l[0]?) hd
        simpa using this
      have hjb : j ∈ bs := List.mem_of_getElem? hk
      have hjn := hok.b j hjb
      have hdrop : bs.drop (k + 1) = rest := by
        rw [← List.drop_drop, hd]; rfl
      have hbs' : bs = bs.take k ++ j :: rest := by rw [← hd, List.take_append_drop]
      have hnd' : (bs.take k ++ j :: rest).Nodup := hbs' ▸ hbnd
      have hjr : j ∉ rest := fun hm => (List.nodup_cons.1 (List.nodup_append.1 hnd').2.1).1 hm
      have hjf : listed.getD j false = false := by
        have hne : ¬ listed.getD j false = true := fun hx => ((hl j hjn).1 hx) (by simp)
        simpa using hne
      have hunl : listed.getD j true = false := by rw [getD_flip (by omega)]; exact hjf
      obtain ⟨oj, hoj⟩ : ∃ o, ops[j]? = some o := ⟨_, Array.getElem?_eq_getElem hjn⟩
      have hone : ∀ i, i ∈ Region.ready .any ops listed → i = j := fun i hi => by
        obtain ⟨h0, o, ho, hdeps⟩ := mem_ready.1 hi
        have hin := (Array.getElem?_eq_some_iff.1 ho).1
        have hir : i ∈ j :: rest := by
          false_or_by_contra
          rename_i hno
          have := (hl i hin).2 hno
          rw [getD_flip (by omega)] at h0
          rw [h0] at this
          cases this
        cases hir with
        | head => rfl
        | tail _ hir =>
          exfalso
          obtain ⟨m, hm⟩ := List.getElem?_of_mem hir
          have hbi : bs[k + 1 + m]? = some i := by
            have := congrArg (fun l => l[m]?) hdrop
            simp only [List.getElem?_drop] at this
            rw [this, hm]
          have hjt : j ∈ bs.take (k + 1 + m) := List.mem_of_getElem? (i := k) (by rw [List.getElem?_take, if_pos (by omega)]; exact hk)
          obtain ⟨e, he, hb, heq⟩ := direct_spec.1 ((hok.bd _ i hbi o ho).2.1 j hjt)
          have := hdeps e he hb
          rw [heq, hjf] at this
          cases this
      have hready : j ∈ Region.ready .any ops listed := by
        rw [mem_ready]
        refine ⟨hunl, oj, hoj, fun e he hb => ?_⟩
        rcases (hok.bd k j hk oj hoj).1 e he hb with h1 | h1
        · exact (hl _ (hok.v _ h1).1).2 fun hm => (hok.v _ h1).2 (hbs' ▸ List.mem_append_right _ hm)
        · exact (hl _ (hok.b _ (List.mem_of_mem_take h1))).2 fun hm => (List.nodup_append.1 hnd').2.2 _ h1 _ hm rfl
      refine ⟨fun hr => (by rw [hr] at hready; cases hready), fun i hi => ?_⟩
      obtain rfl := hone i hi
      rw [wpOps_cons] at h
      refine wpOp_mono (fun a' w' h' => ih (k + 1) fuel _ a' w' hdrop (by simpa using hsz) (by simp at hf; omega) hbnd (fun x hx => ?_) h') h
      rw [listed_set (by omega)]
      by_cases hxi : x = i
      · subst hxi
        simp [hjr]
      · rw [if_neg hxi, hl x hx]
        simp [hxi]
theorem wpAny_predQ (hmono : Stays S) (hs : ∀ (j : Nat) (o : Oper) cs b, ops[j]? = some o → o.op ≠ .select cs b) {vs ps bs : List Nat} (hok : PartsQ ops vs ps bs) (hdst : dstsOk ops vs = true) (hbnd : bs.Nodup)
    (hQ : ∀ c a w d v, Q (.panic c) (Act.put a d v) w → Q (.panic c) a w)
    {Φ : Nat → World → Value → Prop} (hΦ : ∀ i w w' v, Φ i w v → Below w.heap.size w w' → Φ i w' v) {a0 : Act}
    (need : ∀ i ∈ vs, ∀ (γ : Nat → Value) (w : World), S w → (∀ d ∈ depsOf ops vs i, Φ d w (γ d)) → ∃ o, ops[i]? = some o ∧ PredOp P ops o (Φ i) (putD ops γ (depsOf ops vs i) a0) w)
    (pure : ∀ i ∈ ps, ∀ (γ : Nat → Value) (w : World), S w → (∀ d ∈ depsOf ops vs i, Φ d w (γ d)) → ∃ o v, ops[i]? = some o ∧ Yields P ops o v (putD ops γ (depsOf ops vs i) a0) ∧ Φ i w v)
    (hD : ∀ (γ : Nat → Value) (w : World), S w → (∀ i ∈ vs, Φ i w (γ i)) → wpOps P ops Q bs (putD ops γ vs a0) w) :
    ∀ (fuel : Nat) (listed : Array Bool) (γ : Nat → Value) (L : List Nat) (w : World), listed.size = ops.size → L.Nodup → (∀ i ∈ L, i ∈ vs) → (∀ i ∈ vs, i ∈ L ↔ listed.getD i false = true) → (∀ i ∈ bs, listed.getD i false = false) →
      Closed ops listed → (vs.filter fun i => !L.contains i).length + bs.length ≤ fuel → S w → (∀ i ∈ L, Φ i w (γ i)) → wpAny P .any ops Q fuel listed (putD ops γ L a0) w := by
  have hnd : vs.Nodup := hok.lt.imp fun h => by omega
  have hdd := dstsOk_spec hdst
  have hend : ∀ (fuel : Nat) (listed : Array Bool) (γ : Nat → Value) (L : List Nat) (w : World), listed.size = ops.size → L.Nodup → (∀ i ∈ L, i ∈ vs) → (∀ i ∈ vs, i ∈ L ↔ listed.getD i false = true) → (∀ i ∈ bs, listed.getD i false = false) →
      bs.length ≤ fuel → S w → (∀ i ∈ L, Φ i w (γ i)) → (∀ i ∈ vs, i ∈ L) → wpAny P .any ops Q fuel listed (putD ops γ L a0) w := by
    intro fuel listed γ L w hsz hLn hLv hl hbl hf hS hg hfull
    have hp : L.Perm vs := (List.perm_ext_iff_of_nodup hLn hnd).2 fun x => ⟨hLv x, hfull x⟩
    rw [putD_perm γ hp (fun x hx y hy => hdd x (hLv x hx) y (hLv y hy)) a0]
    refine wpAny_endQ hok bs 0 fuel listed _ w rfl hsz hf hbnd (fun i hi => ?_) (hD γ w hS fun i hi => hg i (hfull i hi))
    rcases hok.all i hi with h | h
    · exact ⟨fun _ hib => (hok.v i h).2 hib, fun _ => (hl i h).1 (hfull i h)⟩
    · exact ⟨fun ht => (by rw [hbl i h] at ht; cases ht), fun hn => absurd h hn⟩
  intro fuel
  induction fuel with
  | zero =>
    intro listed γ L w hsz hLn hLv hl hbl _ hf hS hg
    have h0 : (vs.filter fun i => !L.contains i) = [] := List.length_eq_zero_iff.1 (by omega)
    refine hend 0 listed γ L w hsz hLn hLv hl hbl (by omega) hS hg fun i hi => ?_
    have := List.filter_eq_nil_iff.1 h0 i hi
    simpa using this
  | succ fuel ih =>
    intro listed γ L w hsz hLn hLv hl hbl hcl hf hS hg
    by_cases hfull : ∀ i ∈ vs, i ∈ L
    · exact hend _ listed γ L w hsz hLn hLv hl hbl (by omega) hS hg hfull
    -- what has come up besides does not matter
    have htrans : ∀ i ∈ vs, ∀ oi, ops[i]? = some oi → i ∈ Region.ready .any ops listed → i ∉ L ∧ (∀ d ∈ depsOf ops vs i, d ∈ L) ∧
        execOp (putD ops γ L a0).eval oi = execOp (putD ops γ (depsOf ops vs i) a0).eval oi ∧ Region.wanted oi (yielded ops (putD ops γ L a0).tmps) = Region.wanted oi (yielded ops (putD ops γ (depsOf ops vs i) a0).tmps) := by
      intro i hiv oi hoi hi
      obtain ⟨h0, o', ho', hdeps⟩ := mem_ready.1 hi
      rw [hoi] at ho'
      cases ho'
      have hin : i < ops.size := (hok.v i hiv).1
      have h0' : listed.getD i false = false := by rw [← getD_flip (by rw [hsz]; exact hin)]; exact h0
      have hiL : i ∉ L := fun h => by rw [(hl i hiv).1 h] at h0'; cases h0'
      have hdL : ∀ d ∈ depsOf ops vs i, d ∈ L := fun d hd => by
        obtain ⟨hdv, e, he, hb, heq⟩ := (mem_depsOf hoi).1 hd
        have := hdeps e he hb
        rw [heq] at this
        exact (hl d hdv).2 this
      have hp : L.Perm (depsOf ops vs i ++ L.filter fun x => !(depsOf ops vs i).contains x) := by
        have h1 := (List.filter_append_perm (fun x => (depsOf ops vs i).contains x) L).symm
        refine h1.trans (List.Perm.append_right _ ?_)
        refine (List.perm_ext_iff_of_nodup (hLn.filter _) (hnd.filter _)).2 fun x => ?_
        rw [List.mem_filter]
        simp only [List.contains_eq_mem, decide_eq_true_eq]
        exact ⟨fun h => h.2, fun h => ⟨hdL x h, h⟩⟩
      have hput : putD ops γ L a0 = putD ops γ (L.filter fun x => !(depsOf ops vs i).contains x) (putD ops γ (depsOf ops vs i) a0) := by
        rw [putD_perm γ hp (fun x hx y hy => hdd x (hLv x hx) y (hLv y hy)) a0, putD_append]
      have hsame := same_putD (ops := ops) γ oi (fun cs b => hs i oi cs b hoi) (L.filter fun x => !(depsOf ops vs i).contains x) (putD ops γ (depsOf ops vs i) a0) fun x hx t ht => by
        obtain ⟨hxL, hxd⟩ := List.mem_filter.1 hx
        have hxv := hLv x hxL
        have hxo := Array.getElem?_eq_getElem (hok.v x hxv).1
        have hxd' : x ∉ depsOf ops vs i := by simpa using hxd
        have hdx : (ops[x]'(hok.v x hxv).1).dst = some t := by
          unfold dstOf at ht
          rw [hxo] at ht
          exact ht
        have hno : ∀ e ∈ oi.after, Region.binds .any e = true → e.on ≠ x := fun e he hb heq => hxd' ((mem_depsOf hoi).2 ⟨hxv, e, he, hb, heq⟩)
        have hne : x ≠ i := fun e => hiL (e ▸ hxL)
        rcases Nat.lt_or_gt_of_ne hne with hxi | hxi
        · exact (Oper.apart_spec ((hok.vd i hiv oi hoi).2 x hxv hxi _ hxo hno)).1 t hdx
        · have hap := (hok.vd x hxv _ hxo).2 i hiv hxi oi hoi fun e he hb heq => by
            have := hcl x _ e ((hl x hxv).1 hxL) hxo he hb
            rw [heq, h0'] at this
            cases this
          exact (Oper.apart_spec hap).2.2 t hdx
      rw [hput]
      exact ⟨hiL, hdL, hsame.1, hsame.2⟩
    -- one more has come up
    have hstep : ∀ i ∈ vs, ∀ oi, ops[i]? = some oi → i ∈ Region.ready .any ops listed → i ∉ L → ∀ v w', Φ i w' v → Below w.heap.size w w' → wpAny P .any ops Q fuel (listed.setIfInBounds i true) ((putD ops γ L a0).put oi.dst v) w' := by
      intro i hiv oi hoi hi hiL v w' hv hb
      have hin : i < ops.size := (hok.v i hiv).1
      have hγ : (putD ops γ L a0).put oi.dst v = putD ops (fun k => if k = i then v else γ k) (L ++ [i]) a0 := by
        rw [putD_append, putD_congr (γ := fun k => if k = i then v else γ k) (γ' := γ) L a0 fun k hk => (if_neg (fun e : k = i => hiL (e ▸ hk)) : (if k = i then v else γ k) = γ k)]
        show (putD ops γ L a0).put oi.dst v = (putD ops γ L a0).put (dstOf ops i) (if i = i then v else γ i)
        rw [if_pos rfl]
        unfold dstOf
        rw [hoi]
        rfl
      rw [hγ]
      refine ih _ _ _ _ (by simpa using hsz) ?_ ?_ ?_ ?_ (closed_set hcl hi) ?_ (hmono _ _ hS hb) ?_
      · rw [List.nodup_append]
        exact ⟨hLn, by simp, fun x hx y hy e => by simp at hy; exact hiL (hy ▸ e ▸ hx)⟩
      · intro x hx
        rcases List.mem_append.1 hx with h | h
        · exact hLv x h
        · simp at h; exact h ▸ hiv
      · intro x hx
        rw [listed_set (by rw [hsz]; exact hin), List.mem_append]
        by_cases hxi : x = i
        · subst hxi; simp
        · rw [if_neg hxi, ← hl x hx]; simp [hxi]
      · intro x hx
        have hxi : x ≠ i := fun e => (hok.v i hiv).2 (e ▸ hx)
        rw [listed_set (by rw [hsz]; exact hin), if_neg hxi]
        exact hbl x hx
      · have hlen : (vs.filter fun x => !(L ++ [i]).contains x).length < (vs.filter fun x => !L.contains x).length := by
          have hsub : (vs.filter fun x => !(L ++ [i]).contains x) = (vs.filter fun x => !L.contains x).filter fun x => x != i := by
            rw [List.filter_filter]
            congr 1
            funext x
            simp only [List.contains_eq_mem, List.mem_append, List.mem_singleton]
            by_cases h1 : x ∈ L <;> by_cases h2 : x = i <;> simp [h1, h2]
          rw [hsub]
          refine List.length_filter_lt_length_iff_exists.2 ⟨i, List.mem_filter.2 ⟨hiv, by simpa using hiL⟩, by simp⟩
        omega
      · intro x hx
        rcases List.mem_append.1 hx with h | h
        · have hxi : x ≠ i := fun e => hiL (e ▸ h)
          show Φ x w' (if x = i then v else γ x)
          rw [if_neg hxi]
          exact hΦ x w w' _ (hg x h) hb
        · simp at h
          subst h
          show Φ x w' (if x = x then v else γ x)
          rw [if_pos rfl]
          exact hv
    by_cases hpure : ∃ i ∈ ps, i ∈ Region.ready .any ops listed
    · obtain ⟨i, hip, hi⟩ := hpure
      have hiv := hok.p i hip
      have hoi := Array.getElem?_eq_getElem (hok.v i hiv).1
      obtain ⟨hiL, hdL, e1, e2⟩ := htrans i hiv _ hoi hi
      obtain ⟨o, v, ho, hy, hv⟩ := pure i hip γ w hS fun d hd => hg d (hdL d hd)
      rw [hoi] at ho
      cases ho
      exact wpAny_first hoi hs (fun c a w h => hQ c a w _ v h) fuel listed _ w (fun j oj hj hne hlj hno => hok.free i hip _ hoi j oj hj hne (fun e he hb heq => by
        obtain ⟨_, o', ho', hdeps⟩ := mem_ready.1 hi
        rw [hoi] at ho'
        cases ho'
        have h1 := hdeps e he hb
        rw [heq, ← getD_flip (by rw [hsz]; exact (Array.getElem?_eq_some_iff.1 hj).1), hlj] at h1
        cases h1) hno) hi (hy.of_same e1 e2) (hstep i hiv _ hoi hi hiL v w hv (Below.refl _ _))
    have hno : ∀ i ∈ ps, i ∉ Region.ready .any ops listed := fun i hip hi => hpure ⟨i, hip, hi⟩
    refine ⟨fun hr => ?_, fun i hi => ?_⟩
    · exfalso
      apply hfull
      have : ∀ n i, i ≤ n → i ∈ vs → i ∈ L := by
        intro n
        induction n with
        | zero =>
          intro i hin hi
          false_or_by_contra
          rename_i hiL
          have hio := Array.getElem?_eq_getElem (hok.v i hi).1
          have hm : i ∈ Region.ready .any ops listed := mem_ready.2 ⟨by rw [getD_flip (by rw [hsz]; exact (hok.v i hi).1)]; have := fun h => hiL ((hl i hi).2 h); simpa using this, _, hio, fun e he hb => by
            have := ((hok.vd i hi _ hio).1 e he hb).2
            omega⟩
          rw [hr] at hm
          cases hm
        | succ n ihn =>
          intro i hin hi
          false_or_by_contra
          rename_i hiL
          have hio := Array.getElem?_eq_getElem (hok.v i hi).1
          have hm : i ∈ Region.ready .any ops listed := mem_ready.2 ⟨by rw [getD_flip (by rw [hsz]; exact (hok.v i hi).1)]; have := fun h => hiL ((hl i hi).2 h); simpa using this, _, hio, fun e he hb => by
            obtain ⟨h1, h2⟩ := (hok.vd i hi _ hio).1 e he hb
            exact (hl e.on h1).1 (ihn e.on (by omega) h1)⟩
          rw [hr] at hm
          cases hm
      exact fun i hi => this i i (Nat.le_refl _) hi
    · obtain ⟨h0, oi, hoi, hdeps⟩ := mem_ready.1 hi
      have hin : i < ops.size := (Array.getElem?_eq_some_iff.1 hoi).1
      rcases hok.all i hin with hiv | hib
      · obtain ⟨hiL, hdL, e1, e2⟩ := htrans i hiv oi hoi hi
        obtain ⟨o, ho, hop⟩ := need i hiv γ w hS fun d hd => hg d (hdL d hd)
        rw [hoi] at ho
        cases ho
        exact (hop.of_same e1 e2).wpOp hoi fun v w' hv hb => hstep i hiv oi hoi hi hiL v w' hv hb
      · exfalso
        apply hfull
        intro x hx
        obtain ⟨k, hk⟩ := List.getElem?_of_mem hib
        have hdl : ∀ y, direct oi y = true → listed.getD y false = true := fun y hy => by
          obtain ⟨e, he, hb, heq⟩ := direct_spec.1 hy
          have := hdeps e he hb
          rw [heq] at this
          exact this
        rcases (hok.bd k i hk oi hoi).2.2 x hx with hd | ⟨hxp, hd⟩
        · exact (hl x hx).2 (hdl x hd)
        · false_or_by_contra
          rename_i hxL
          have hxo := Array.getElem?_eq_getElem (hok.v x hx).1
          refine hno x hxp (mem_ready.2 ⟨by rw [getD_flip (by rw [hsz]; exact (hok.v x hx).1)]; have := fun h => hxL ((hl x hx).2 h); simpa using this, _, hxo, fun e he hb => ?_⟩)
          exact hdl _ (hd _ ((mem_depsOf hxo).2 ⟨((hok.vd x hx _ hxo).1 e he hb).1, e, he, hb, rfl⟩))

/-- What is to be shown of the pure operations. -/
def PureE (P : Program) (ops : Array Oper) (S : World → Prop) (Φ : Nat → World → Value → Prop) (a0 : Act) : List Nat → List (List (Nat × Option Tmp)) → Prop
  | i :: r, d :: ds => (∀ (γ : Nat → Value) (w : World), S w → AllE Φ γ w d → ∃ o v, ops[i]? = some o ∧ Yields P ops o v (putE γ d a0) ∧ Φ i w v) ∧ PureE P ops S Φ a0 r ds
  | _, _ => True
theorem pureE_at {vs : List Nat} {Φ : Nat → World → Value → Prop} {a0 : Act} : ∀ l : List Nat, PureE P ops S Φ a0 l (l.map fun i => (depsOf ops vs i).map fun d => (d, dstOf ops d)) → ∀ i ∈ l, ∀ (γ : Nat → Value) (w : World), S w → (∀ d ∈ depsOf ops vs i, Φ d w (γ d)) → ∃ o v, ops[i]? = some o ∧ Yields P ops o v (putD ops γ (depsOf ops vs i) a0) ∧ Φ i w v
  | [], _, _, hi => by cases hi
  | j :: r, h, i, hi => by
    rcases List.mem_cons.1 hi with rfl | hi
    · intro γ w hS hd
      obtain ⟨o, v, ho, hp, hv⟩ := h.1 γ w hS (allE_eq _ hd)
      rw [putE_eq] at hp
      exact ⟨o, v, ho, hp, hv⟩
    · exact pureE_at r h.2 i hi

/-- THE LAW. -/
theorem wp_region_predQ {id : Nat} {a : Act} {w : World} (S : World → Prop) (vs ps bs : List Nat) (Φ : Nat → World → Value → Prop) (dl pl : List (List (Nat × Option Tmp))) (al : List (Nat × Option Tmp)) (hm : P.follows .mixedOrders = true) (hs : Region.noSelect ops = true) (hok : partsOkQ ops vs ps bs = true) (hdst : dstsOk ops vs = true)
    (hdl : (vs.map fun i => (depsOf ops vs i).map fun d => (d, dstOf ops d)) = dl) (hpl : (ps.map fun i => (depsOf ops vs i).map fun d => (d, dstOf ops d)) = pl) (hal : (vs.map fun d => (d, dstOf ops d)) = al) (hbnd : bs.Nodup) (hlen : vs.length + bs.length ≤ ops.size) (hmono : Stays S)
    (hQ : ∀ c a w d v, Q (.panic c) (Act.put a d v) w → Q (.panic c) a w) (hΦ : ∀ i w w' v, Φ i w v → Below w.heap.size w w' → Φ i w' v) (hS : S w.drew)
    (need : NeedE P ops S Φ a vs dl) (pure : PureE P ops S Φ a ps pl)
    (hD : ∀ (γ : Nat → Value) (w : World), S w → AllE Φ γ w al → wpOps P ops Q bs (putE γ al a) w) : (Code.region id ops true).wp P Q a w := by
  have hl0 : ∀ i, (Array.replicate ops.size false).getD i false = false := fun i => by
    by_cases hi : i < ops.size <;> simp [hi]
  subst hdl hpl hal
  refine wp_region_any hm ?_
  exact wpAny_predQ (Q := Q) hmono (Region.noSelect_spec hs) (partsQ_of hok) hdst hbnd hQ hΦ (fun i hi γ wx hSx h => needE_at vs need i hi γ wx hSx h) (fun i hi γ wx hSx h => pureE_at ps pure i hi γ wx hSx h) (fun γ wx hSx h => by rw [← putE_eq]; exact hD γ wx hSx (allE_eq _ h))
    ops.size (Array.replicate ops.size false) (fun _ => undef) [] w.drew (by simp) (by simp) (fun i hi => by cases hi) (fun i _ => by simp [hl0]) (fun i _ => hl0 i)
    (fun i o e hi => by rw [hl0] at hi; cases hi) (Nat.le_trans (Nat.add_le_add_right (List.length_filter_le _ _) _) hlen) hS (fun i hi => by cases hi)
end
end Go.Proofs.Ytioeaknhcfkfcaa

namespace Go.Proofs.Ytioeaknhcfkfcaa
open Go.RowKit

/-- A piece as a value. -/
structure PV where
  id : Int
  at_ : Int
  many : Int
  a : Option Addr
  n : Nat
  c : Nat
abbrev PV.v (p : PV) : Value := .agg #[.int .u32 p.id, .int .i64 p.at_, .int .i64 p.many, .slice p.a p.n p.c]
def rightB (p : PV) : Bool := decide (1 ≤ p.many ∧ p.many ≤ 32 ∧ 0 ≤ p.at_ ∧ p.at_ < p.many ∧ p.n ≤ 4096)
/-- A joiner's own object. -/
structure JV where
  began : Bool
  id : Int
  a : Option Addr
  n : Nat
  c : Nat
abbrev jObj (j : JV) : Obj := .cells #[.bool j.began, .int .u32 j.id, .slice j.a j.n j.c] 87
abbrev jP (g : Nat) : Value := .pointer (some ⟨g, 0, none⟩)
def nextB (j : JV) (id : Int) : Bool := !j.began || decide (j.id < id)

set_option maxHeartbeats 1000000 in
theorem right_any (p : PV) (w : World) : Calls Try.prog 64 #[p.v] w fun r w' => r = .returned (.bool (rightB p)) ∧ Below w.heap.size w w' := by
  by_cases h1 : 1 ≤ p.many
  · by_cases h2 : p.many ≤ 32
    · by_cases h3 : 0 ≤ p.at_
      · by_cases h4 : p.at_ < p.many
        · by_cases h5 : p.n ≤ 4096
          · have HE : Hid (rightB p = true) := by unfold Hid rightB; simp [h1, h2, h3, h4, h5]
            have h5' : (p.n : Int) ≤ 4096 := by omega
            go_enter Try.func64, Try.ntmps64
            go_wp2_with fail
            go_ret
            exact ⟨retb HE.out.symm, more (Below.refl _ _) _⟩
          · have HE : Hid (rightB p = false) := by unfold Hid rightB; simp [h5]
            have h5' : ¬ (p.n : Int) ≤ 4096 := by omega
            go_enter Try.func64, Try.ntmps64
            go_wp2_with fail
            go_ret
            exact ⟨retb HE.out.symm, more (Below.refl _ _) _⟩
        · have HE : Hid (rightB p = false) := by unfold Hid rightB; simp [h4]
          go_enter Try.func64, Try.ntmps64
          go_wp2_with fail
          go_ret
          exact ⟨retb HE.out.symm, more (Below.refl _ _) _⟩
      · have HE : Hid (rightB p = false) := by unfold Hid rightB; simp [h3]
        go_enter Try.func64, Try.ntmps64
        go_wp2_with fail
        go_ret
        exact ⟨retb HE.out.symm, more (Below.refl _ _) _⟩
    · have HE : Hid (rightB p = false) := by unfold Hid rightB; simp [h2]
      go_enter Try.func64, Try.ntmps64
      go_wp2_with fail
      go_ret
      exact ⟨retb HE.out.symm, more (Below.refl _ _) _⟩
  · have HE : Hid (rightB p = false) := by unfold Hid rightB; simp [h1]
    go_enter Try.func64, Try.ntmps64
    go_wp2_with fail
    go_ret
    exact ⟨retb HE.out.symm, more (Below.refl _ _) _⟩
end Go.Proofs.Ytioeaknhcfkfcaa

namespace Go.Proofs.Ytioeaknhcfkfcaa
open Go.RowKit

theorem jcells {w : World} {g : Nat} {j : JV} (h : Blk w g (jObj j)) :
    (w.cell? ⟨g, 0, none⟩ = some (.bool j.began) ∧ w.cell? ⟨g, 1, none⟩ = some (.int .u32 j.id) ∧ w.cell? ⟨g, 2, none⟩ = some (.slice j.a j.n j.c)) ∧ ∀ i, w.frozen? ⟨g, i, none⟩ = false :=
  ⟨⟨h.cell 0, h.cell 1, h.cell 2⟩, fun i => h.frozen i⟩
def endJ (j : JV) : JV := ⟨true, j.id, none, 0, 0⟩
end Go.Proofs.Ytioeaknhcfkfcaa

namespace Go.Proofs.Ytioeaknhcfkfcaa
open Go.RowKit

/-- A part: whether it is there, its text as a value, its text. -/
structure PtV where
  there : Bool
  v : Value
  l : List Int
def ptc (x : PtV) : List Value := [.bool x.there, x.v]
def pcells (ps : List PtV) : List Value := (ps.map ptc).flatten
theorem pcells_len (ps : List PtV) : (pcells ps).length = 2 * ps.length := by
  induction ps with
  | nil => rfl
  | cons x r ih =>
    unfold pcells at *
    rw [List.map_cons, List.flatten_cons, List.length_append, ih]
    simp [ptc]
    omega
theorem pcells_at {ps : List PtV} {i : Nat} (hi : i < ps.length) {j : Nat} {u : Value} (hu : (ptc ps[i])[j]? = some u) : (pcells ps)[i * 2 + j]? = some u := by
  have hj : j < 2 := by
    have := (List.getElem?_eq_some_iff.1 hu).1
    simpa [ptc] using this
  have e : pcells ps = pcells (ps.take i) ++ (ptc ps[i] ++ pcells (ps.drop (i + 1))) := by
    unfold pcells
    conv => lhs; rw [← List.take_append_drop i ps, List.map_append, List.flatten_append, List.drop_eq_getElem_cons hi, List.map_cons, List.flatten_cons]
  have hl : (pcells (ps.take i)).length = i * 2 := by
    rw [pcells_len, List.length_take, Nat.min_eq_left (Nat.le_of_lt hi)]; omega
  rw [e, List.getElem?_append_right (by omega), hl, Nat.add_sub_cancel_left, List.getElem?_append_left (by have := (List.getElem?_eq_some_iff.1 hu).1; exact this)]
  exact hu
def pa (q n : Nat) : Option Addr := if n = 0 then none else some ⟨q, 0, none⟩
structure PjM where
  began : Bool
  id : Int
  ps : List PtV
/-- The joiner's object lies in block g, the row of its parts in block q. -/
structure JIs (w : World) (g q : Nat) (J : PjM) : Prop where
  b : Blk w g (jObj ⟨J.began, J.id, pa q J.ps.length, J.ps.length, J.ps.length⟩)
  r : 0 < J.ps.length → Blk w q (.cells (pcells J.ps).toArray 94)
  t : ∀ x ∈ J.ps, HoldsB w w.heap.size x.v x.l ∧ x.l.length ≤ 4096
  n : J.ps.length ≤ 32
  i : 0 ≤ J.id ∧ J.id ≤ 4294967295
theorem HoldsB.grow {w w' : World} {v : Value} {l : List Int} (h : HoldsB w w.heap.size v l) (hb : Below w.heap.size w w') : HoldsB w' w'.heap.size v l := (h.keep hb).mono hb.size
theorem JIs.keep {w w' : World} {g q : Nat} {J : PjM} (h : JIs w g q J) (hb : Below w.heap.size w w') : JIs w' g q J :=
  ⟨h.b.keep hb, fun h0 => (h.r h0).keep hb, fun x hx => ⟨(h.t x hx).1.grow hb, (h.t x hx).2⟩, h.n, h.i⟩
theorem JIs.at {w : World} {g q : Nat} {J : PjM} (h : JIs w g q J) {i : Nat} (hi : i < J.ps.length) : w.rangeAt q (i * 2) (ptc J.ps[i]) := fun j u hu => by
  have h7 := pcells_at hi hu
  rw [cell_of_row w q (i * 2 + j) _ 94 (0, 0) (h.r (by omega))]
  rw [List.getElem?_toArray]
  exact h7
theorem pa_some {q n : Nat} (h : 0 < n) : pa q n = some ⟨q, 0, none⟩ := by unfold pa; rw [if_neg (by omega)]
def lens (ps : List PtV) : Nat := (ps.map fun x => x.l.length).sum
theorem lens_succ {ps : List PtV} {i : Nat} (hi : i < ps.length) : lens (ps.take (i + 1)) = lens (ps.take i) + ps[i].l.length := by
  unfold lens
  rw [List.take_add_one, List.getElem?_eq_getElem hi]
  simp only [Option.toList, List.map_append, List.sum_append, List.map_cons, List.map_nil, List.sum_cons, List.sum_nil, Nat.add_zero]
def haves (ps : List PtV) : Nat := (ps.filter fun x => x.there).length
theorem haves_succ {ps : List PtV} {i : Nat} (hi : i < ps.length) : haves (ps.take (i + 1)) = haves (ps.take i) + (if ps[i].there then 1 else 0) := by
  unfold haves
  rw [List.take_add_one, List.getElem?_eq_getElem hi, List.filter_append, List.length_append]
  cases h : ps[i].there <;> simp [h]
theorem lens_le {ps : List PtV} (h : ∀ x ∈ ps, x.l.length ≤ 4096) : lens ps ≤ 4096 * ps.length := by
  induction ps with
  | nil => simp [lens]
  | cons x r ih =>
    have h1 := ih fun y hy => h y (List.mem_cons_of_mem _ hy)
    have h2 := h x (List.mem_cons_self ..)
    unfold lens at *
    simp only [List.map_cons, List.sum_cons, List.length_cons]
    omega
theorem haves_le (ps : List PtV) : haves ps ≤ ps.length := List.length_filter_le ..
end Go.Proofs.Ytioeaknhcfkfcaa
