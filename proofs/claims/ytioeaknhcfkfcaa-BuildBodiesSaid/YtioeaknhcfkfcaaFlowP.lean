/-
  A third law of this seat's own on regions that draw their order: of each operation it is known what its result is like (a condition that stays, whatever is made besides), not which value it is: so calls may hand back memory that they made, whose place hangs on the order. The end is walked one behind the other.
-/
import Derived.Test.YtioeaknhcfkfcaaFlowV
import Derived.Laws.Rows
namespace Go.Proofs.Ytioeaknhcfkfcaa
open Go.RowKit

section
variable {P : Program} {ops : Array Oper} {Q : Exit → Act → World → Prop} {S : World → Prop}

/-- What a run, begun in world w, comes to: a value that meets V; all that was in memory is as it was. -/
def PredRun (P : Program) (w : World) (V : World → Value → Prop) : Result Next → Prop
  | .ok (.value u) w' => V w' u ∧ Below w.heap.size w w'
  | .ok (.enter f args) w' => w' = w ∧ Calls P f args w (fun e w'' => ∃ v, e = .returned v ∧ V w'' v ∧ Below w.heap.size w w'')
  | _ => False

def PredOp (P : Program) (ops : Array Oper) (o : Oper) (V : World → Value → Prop) (a : Act) (w : World) : Prop :=
  (Region.wanted o (yielded ops a.tmps) = true ∧ PredRun P w V ((execOp a.eval o).run P w)) ∨ (Region.wanted o (yielded ops a.tmps) = false ∧ V w undef)

theorem PredOp.of_same {o : Oper} {V : World → Value → Prop} {a a' : Act} {w : World} (hy : PredOp P ops o V a w) (he : execOp a'.eval o = execOp a.eval o)
    (hw : Region.wanted o (yielded ops a'.tmps) = Region.wanted o (yielded ops a.tmps)) : PredOp P ops o V a' w := by
  unfold PredOp at *
  rw [he, hw]
  exact hy

theorem PredOp.wpOp {i : Nat} {o : Oper} {V : World → Value → Prop} {a : Act} (hi : ops[i]? = some o) {K : Act → World → Prop} {w : World} (hy : PredOp P ops o V a w)
    (h : ∀ v w', V w' v → Below w.heap.size w w' → K (a.put o.dst v) w') : wpOp P ops Q i K a w := by
  unfold Go.wpOp
  simp only [hi]
  rcases hy with ⟨hw, hg⟩ | ⟨hw, hv⟩
  · simp only [hw, if_true, Oper.wp]
    generalize (execOp a.eval o).run P w = r at hg
    refine .inl ?_
    cases r with
    | ok n w' =>
      cases n with
      | value u => exact h _ _ hg.1 hg.2
      | enter f args =>
        obtain ⟨rfl, hg⟩ := hg
        refine Calls.mono hg fun e w'' he => ?_
        obtain ⟨v, rfl, hv, hb⟩ := he
        exact h _ _ hv hb
      | _ => exact hg.elim
    | halt x w' => exact hg.elim
  · simp only [hw, Bool.false_eq_true, if_false]
    exact h _ _ hv (Below.refl _ _)

/-- The values that have come, in their slots. -/
def putD (ops : Array Oper) (γ : Nat → Value) : List Nat → Act → Act
  | [], a => a
  | i :: r, a => putD ops γ r (a.put (dstOf ops i) (γ i))
theorem putD_append (γ : Nat → Value) : ∀ (l m : List Nat) (a : Act), putD ops γ (l ++ m) a = putD ops γ m (putD ops γ l a)
  | [], _, _ => rfl
  | i :: r, m, a => putD_append γ r m _
theorem putD_congr {γ γ' : Nat → Value} : ∀ (l : List Nat) (a : Act), (∀ i ∈ l, γ i = γ' i) → putD ops γ l a = putD ops γ' l a
  | [], _, _ => rfl
  | i :: r, a, h => by
    unfold putD
    rw [h i (by simp)]
    exact putD_congr r _ fun j hj => h j (List.mem_cons_of_mem _ hj)
theorem putD_perm (γ : Nat → Value) {l m : List Nat} (hp : l.Perm m) : (∀ x ∈ l, ∀ y ∈ l, x ≠ y → ∀ t, dstOf ops x = some t → dstOf ops y ≠ some t) → ∀ a : Act, putD ops γ l a = putD ops γ m a := by
  induction hp with
  | nil => exact fun _ _ => rfl
  | cons x _ ih => exact fun h a => ih (fun y hy z hz => h y (List.mem_cons_of_mem _ hy) z (List.mem_cons_of_mem _ hz)) _
  | swap x y l =>
    intro h a
    unfold putD
    unfold putD
    by_cases hxy : x = y
    · subst hxy; rfl
    · rw [put_same_apart (γ y) (γ x) (h y (by simp) x (by simp) (Ne.symm hxy))]
  | trans h1 _ ih1 ih2 => exact fun h a => (ih1 h a).trans (ih2 (fun x hx y hy => h x (h1.mem_iff.2 hx) y (h1.mem_iff.2 hy)) a)
theorem same_putD (γ : Nat → Value) (o : Oper) (hs : ∀ cs b, o.op ≠ .select cs b) : ∀ (l : List Nat) (a : Act), (∀ i ∈ l, ∀ t, dstOf ops i = some t → t ∉ o.looksAt ops) →
    execOp (putD ops γ l a).eval o = execOp a.eval o ∧ Region.wanted o (yielded ops (putD ops γ l a).tmps) = Region.wanted o (yielded ops a.tmps)
  | [], _, _ => ⟨rfl, rfl⟩
  | i :: r, a, h => by
    obtain ⟨h1, h2⟩ := same_putD γ o hs r (a.put (dstOf ops i) (γ i)) fun j hj => h j (List.mem_cons_of_mem _ hj)
    unfold putD
    exact ⟨h1.trans (execOp_put o hs a _ _ (h i (by simp))), h2.trans (wanted_put o a _ _ (h i (by simp)))⟩

/-- For which of vs number i waits. -/
def depsOf (ops : Array Oper) (vs : List Nat) (i : Nat) : List Nat := vs.filter fun x => match ops[i]? with | some o => o.after.any fun e => Region.binds .any e && e.on == x | none => false
theorem mem_depsOf {vs : List Nat} {i x : Nat} {o : Oper} (ho : ops[i]? = some o) : x ∈ depsOf ops vs i ↔ x ∈ vs ∧ ∃ e ∈ o.after, Region.binds .any e = true ∧ e.on = x := by
  unfold depsOf
  rw [List.mem_filter, ho]
  simp only [Array.any_eq_true', Bool.and_eq_true, beq_iff_eq]
/-- The slots that are written are different ones. -/
def dstsOk (ops : Array Oper) (vs : List Nat) : Bool := vs.all fun x => vs.all fun y => x == y || match dstOf ops x, dstOf ops y with | some s, some t => s != t | _, _ => true
theorem dstsOk_spec {vs : List Nat} (h : dstsOk ops vs = true) : ∀ x ∈ vs, ∀ y ∈ vs, x ≠ y → ∀ t, dstOf ops x = some t → dstOf ops y ≠ some t := by
  intro x hx y hy hne t ht ht2
  unfold dstsOk at h
  simp only [List.all_eq_true, Bool.or_eq_true, beq_iff_eq] at h
  rcases h x hx y hy with h | h
  · exact hne h
  · rw [ht, ht2] at h
    simp at h

theorem wpAny_pred (hmono : Stays S) (hs : ∀ (j : Nat) (o : Oper) cs b, ops[j]? = some o → o.op ≠ .select cs b) {vs bs : List Nat} (hok : partsOk ops vs [] bs = true) (hdst : dstsOk ops vs = true) (hbnd : bs.Nodup)
    {Φ : Nat → World → Value → Prop} (hΦ : ∀ i w w' v, Φ i w v → Below w.heap.size w w' → Φ i w' v) {a0 : Act}
    (need : ∀ i ∈ vs, ∀ (γ : Nat → Value) (w : World), S w → (∀ d ∈ depsOf ops vs i, Φ d w (γ d)) → ∃ o, ops[i]? = some o ∧ PredOp P ops o (Φ i) (putD ops γ (depsOf ops vs i) a0) w)
    (hD : ∀ (γ : Nat → Value) (w : World), S w → (∀ i ∈ vs, Φ i w (γ i)) → wpOps P ops Q bs (putD ops γ vs a0) w) :
    ∀ (fuel : Nat) (listed : Array Bool) (γ : Nat → Value) (L : List Nat) (w : World), listed.size = ops.size → L.Nodup → (∀ i ∈ L, i ∈ vs) → (∀ i ∈ vs, i ∈ L ↔ listed.getD i false = true) → (∀ i ∈ bs, listed.getD i false = false) →
      Closed ops listed → (vs.filter fun i => !L.contains i).length + bs.length ≤ fuel → S w → (∀ i ∈ L, Φ i w (γ i)) → wpAny P .any ops Q fuel listed (putD ops γ L a0) w := by
  obtain ⟨hall, hvs, _, hbs, hlt, _, hV, _, hB⟩ := partsOk_spec hok
  have hnd : vs.Nodup := hlt.imp fun h => by omega
  have hdd := dstsOk_spec hdst
  -- where all of vs have come up
  have hend : ∀ (fuel : Nat) (listed : Array Bool) (γ : Nat → Value) (L : List Nat) (w : World), listed.size = ops.size → L.Nodup → (∀ i ∈ L, i ∈ vs) → (∀ i ∈ vs, i ∈ L ↔ listed.getD i false = true) → (∀ i ∈ bs, listed.getD i false = false) →
      bs.length ≤ fuel → S w → (∀ i ∈ L, Φ i w (γ i)) → (∀ i ∈ vs, i ∈ L) → wpAny P .any ops Q fuel listed (putD ops γ L a0) w := by
    intro fuel listed γ L w hsz hLn hLv hl hbl hf hS hg hfull
    have hp : L.Perm vs := (List.perm_ext_iff_of_nodup hLn hnd).2 fun x => ⟨hLv x, hfull x⟩
    rw [putD_perm γ hp (fun x hx y hy => hdd x (hLv x hx) y (hLv y hy)) a0]
    refine wpAny_end hok bs 0 fuel listed _ w rfl hsz hf hbnd (fun i hi => ?_) (hD γ w hS fun i hi => hg i (hfull i hi))
    rcases hall i hi with h | h | h
    · exact ⟨fun _ hib => (hvs i h).2.2 hib, fun _ => (hl i h).1 (hfull i h)⟩
    · cases h
    · exact ⟨fun ht => (by rw [hbl i h] at ht; cases ht), fun hn => absurd h hn⟩
  intro fuel
  induction fuel with
  | zero =>
    intro listed γ L w hsz hLn hLv hl hbl _ hf hS hg
    have h0 : (vs.filter fun i => !L.contains i) = [] := List.length_eq_zero_iff.1 (by omega)
    refine hend 0 listed γ L w hsz hLn hLv hl hbl (by omega) hS hg fun i hi => ?_
    have := List.filter_eq_nil_iff.1 h0 i hi
    simpa using this
  | succ fuel ih =>
    intro listed γ L w hsz hLn hLv hl hbl hcl hf hS hg
    by_cases hfull : ∀ i ∈ vs, i ∈ L
    · exact hend _ listed γ L w hsz hLn hLv hl hbl (by omega) hS hg hfull
    refine ⟨fun hr => ?_, fun i hi => ?_⟩
    · -- something is ready
      exfalso
      apply hfull
      have : ∀ n i, i ≤ n → i ∈ vs → i ∈ L := by
        intro n
        induction n with
        | zero =>
          intro i hin hi
          false_or_by_contra
          rename_i hiL
          have hio := Array.getElem?_eq_getElem (hvs i hi).1
          have hm : i ∈ Region.ready .any ops listed := mem_ready.2 ⟨by rw [getD_flip (by rw [hsz]; exact (hvs i hi).1)]; have := fun h => hiL ((hl i hi).2 h); simpa using this, _, hio, fun e he hb => by
            have := ((hV i hi _ hio).1 e he hb).2
            omega⟩
          rw [hr] at hm
          cases hm
        | succ n ihn =>
          intro i hin hi
          false_or_by_contra
          rename_i hiL
          have hio := Array.getElem?_eq_getElem (hvs i hi).1
          have hm : i ∈ Region.ready .any ops listed := mem_ready.2 ⟨by rw [getD_flip (by rw [hsz]; exact (hvs i hi).1)]; have := fun h => hiL ((hl i hi).2 h); simpa using this, _, hio, fun e he hb => by
            obtain ⟨h1, h2⟩ := (hV i hi _ hio).1 e he hb
            have := (hl e.on h1).1 (ihn e.on (by omega) h1)
            exact this⟩
          rw [hr] at hm
          cases hm
      exact fun i hi => this i i (Nat.le_refl _) hi
    · obtain ⟨h0, oi, hoi, hdeps⟩ := mem_ready.1 hi
      have hin : i < ops.size := (Array.getElem?_eq_some_iff.1 hoi).1
      have h0' : listed.getD i false = false := by rw [← getD_flip (by rw [hsz]; exact hin)]; exact h0
      rcases hall i hin with hiv | hiv | hib
      · have hiL : i ∉ L := fun h => by rw [(hl i hiv).1 h] at h0'; cases h0'
        have hdL : ∀ d ∈ depsOf ops vs i, d ∈ L := fun d hd => by
          obtain ⟨hdv, e, he, hb, heq⟩ := (mem_depsOf hoi).1 hd
          have := hdeps e he hb
          rw [heq] at this
          exact (hl d hdv).2 this
        obtain ⟨o, ho, hop⟩ := need i hiv γ w hS fun d hd => hg d (hdL d hd)
        rw [hoi] at ho
        cases ho
        -- what has come up besides does not matter
        have hp : L.Perm (depsOf ops vs i ++ L.filter fun x => !(depsOf ops vs i).contains x) := by
          have h1 := (List.filter_append_perm (fun x => (depsOf ops vs i).contains x) L).symm
          refine h1.trans (List.Perm.append_right _ ?_)
          refine (List.perm_ext_iff_of_nodup (hLn.filter _) (hnd.filter _)).2 fun x => ?_
          rw [List.mem_filter]
          simp only [List.contains_eq_mem, decide_eq_true_eq]
          exact ⟨fun h => h.2, fun h => ⟨hdL x h, h⟩⟩
        have hput : putD ops γ L a0 = putD ops γ (L.filter fun x => !(depsOf ops vs i).contains x) (putD ops γ (depsOf ops vs i) a0) := by
          rw [putD_perm γ hp (fun x hx y hy => hdd x (hLv x hx) y (hLv y hy)) a0, putD_append]
        have hsame := same_putD (ops := ops) γ oi (fun cs b => hs i oi cs b hoi) (L.filter fun x => !(depsOf ops vs i).contains x) (putD ops γ (depsOf ops vs i) a0) fun x hx t ht => by
          obtain ⟨hxL, hxd⟩ := List.mem_filter.1 hx
          have hxv := hLv x hxL
          have hxo := Array.getElem?_eq_getElem (hvs x hxv).1
          have hxd' : x ∉ depsOf ops vs i := by simpa using hxd
          have hdx : (ops[x]'(hvs x hxv).1).dst = some t := by
            unfold dstOf at ht
            rw [hxo] at ht
            exact ht
          have hno : ∀ e ∈ oi.after, Region.binds .any e = true → e.on ≠ x := fun e he hb heq => hxd' ((mem_depsOf hoi).2 ⟨hxv, e, he, hb, heq⟩)
          have hne : x ≠ i := fun e => hiL (e ▸ hxL)
          rcases Nat.lt_or_gt_of_ne hne with hxi | hxi
          · exact (Oper.apart_spec ((hV i hiv oi hoi).2.1 x hxv hxi _ hxo hno)).1 t hdx
          · have hap := (hV x hxv _ hxo).2.1 i hiv hxi oi hoi fun e he hb heq => by
              have := hcl x _ e ((hl x hxv).1 hxL) hxo he hb
              rw [heq, h0'] at this
              cases this
            exact (Oper.apart_spec hap).2.2 t hdx
        rw [hput]
        refine (hop.of_same hsame.1 hsame.2).wpOp hoi fun v w' hv hb => ?_
        rw [← hput]
        have hγ : (putD ops γ L a0).put oi.dst v = putD ops (fun k => if k = i then v else γ k) (L ++ [i]) a0 := by
          rw [putD_append, putD_congr (γ := fun k => if k = i then v else γ k) (γ' := γ) L a0 fun k hk => (if_neg (fun e : k = i => hiL (e ▸ hk)) : (if k = i then v else γ k) = γ k)]
          show (putD ops γ L a0).put oi.dst v = (putD ops γ L a0).put (dstOf ops i) (if i = i then v else γ i)
          rw [if_pos rfl]
          unfold dstOf
          rw [hoi]
          rfl
        rw [hγ]
        refine ih _ _ _ _ (by simpa using hsz) ?_ ?_ ?_ ?_ (closed_set hcl hi) ?_ (hmono _ _ hS hb) ?_
        · rw [List.nodup_append]
          exact ⟨hLn, by simp, fun x hx y hy e => by simp at hy; exact hiL (hy ▸ e ▸ hx)⟩
        · intro x hx
          rcases List.mem_append.1 hx with h | h
          · exact hLv x h
          · simp at h; exact h ▸ hiv
        · intro x hx
          rw [listed_set (by rw [hsz]; exact hin), List.mem_append]
          by_cases hxi : x = i
          · subst hxi; simp
          · rw [if_neg hxi, ← hl x hx]; simp [hxi]
        · intro x hx
          have hxi : x ≠ i := fun e => (hvs i hiv).2.2 (e ▸ hx)
          rw [listed_set (by rw [hsz]; exact hin), if_neg hxi]
          exact hbl x hx
        · have hlen : (vs.filter fun x => !(L ++ [i]).contains x).length < (vs.filter fun x => !L.contains x).length := by
            have hsub : (vs.filter fun x => !(L ++ [i]).contains x) = (vs.filter fun x => !L.contains x).filter fun x => x != i := by
              rw [List.filter_filter]
              congr 1
              funext x
              simp only [List.contains_eq_mem, List.mem_append, List.mem_singleton]
              by_cases h1 : x ∈ L <;> by_cases h2 : x = i <;> simp [h1, h2]
            rw [hsub]
            refine List.length_filter_lt_length_iff_exists.2 ⟨i, List.mem_filter.2 ⟨hiv, by simpa using hiL⟩, by simp⟩
          omega
        · intro x hx
          rcases List.mem_append.1 hx with h | h
          · have hxi : x ≠ i := fun e => hiL (e ▸ h)
            show Φ x w' (if x = i then v else γ x)
            rw [if_neg hxi]
            exact hΦ x w w' _ (hg x h) hb
          · simp at h
            subst h
            show Φ x w' (if x = x then v else γ x)
            rw [if_pos rfl]
            exact hv
      · cases hiv
      · exfalso
        apply hfull
        intro x hx
        obtain ⟨k, hk⟩ := List.getElem?_of_mem hib
        have hw := (hB k i hk oi hoi).2 x (.inl hx)
        exact (hl x hx).2 (waits_listed hcl ops.size i x oi hoi hdeps hw)

/-- The values that have come, in the slots that are named. -/
def putE (γ : Nat → Value) : List (Nat × Option Tmp) → Act → Act
  | [], a => a
  | p :: r, a => putE γ r (a.put p.2 (γ p.1))
theorem putE_eq (γ : Nat → Value) : ∀ (l : List Nat) (a : Act), putE γ (l.map fun d => (d, dstOf ops d)) a = putD ops γ l a
  | [], _ => rfl
  | _ :: r, _ => putE_eq γ r _
/-- All that is known of these values. -/
def AllE (Φ : Nat → World → Value → Prop) (γ : Nat → Value) (w : World) : List (Nat × Option Tmp) → Prop
  | [] => True
  | [p] => Φ p.1 w (γ p.1)
  | p :: r => Φ p.1 w (γ p.1) ∧ AllE Φ γ w r
theorem allE_eq {Φ : Nat → World → Value → Prop} {γ : Nat → Value} {w : World} : ∀ l : List Nat, (∀ d ∈ l, Φ d w (γ d)) → AllE Φ γ w (l.map fun d => (d, dstOf ops d))
  | [], _ => trivial
  | [d], h => h d (by simp)
  | d :: e :: r, h => ⟨h d (by simp), allE_eq (e :: r) fun x hx => h x (List.mem_cons_of_mem _ hx)⟩
/-- What is to be shown of the operations, one by one: each with what it waits for. -/
def NeedE (P : Program) (ops : Array Oper) (S : World → Prop) (Φ : Nat → World → Value → Prop) (a0 : Act) : List Nat → List (List (Nat × Option Tmp)) → Prop
  | i :: r, d :: ds => (∀ (γ : Nat → Value) (w : World), S w → AllE Φ γ w d → ∃ o, ops[i]? = some o ∧ PredOp P ops o (Φ i) (putE γ d a0) w) ∧ NeedE P ops S Φ a0 r ds
  | _, _ => True
theorem needE_at {vs : List Nat} {Φ : Nat → World → Value → Prop} {a0 : Act} : ∀ l : List Nat, NeedE P ops S Φ a0 l (l.map fun i => (depsOf ops vs i).map fun d => (d, dstOf ops d)) → ∀ i ∈ l, ∀ (γ : Nat → Value) (w : World), S w → (∀ d ∈ depsOf ops vs i, Φ d w (γ d)) → ∃ o, ops[i]? = some o ∧ PredOp P ops o (Φ i) (putD ops γ (depsOf ops vs i) a0) w
  | [], _, _, hi => by cases hi
  | j :: r, h, i, hi => by
    rcases List.mem_cons.1 hi with rfl | hi
    · intro γ w hS hd
      obtain ⟨o, ho, hp⟩ := h.1 γ w hS (allE_eq _ hd)
      rw [putE_eq] at hp
      exact ⟨o, ho, hp⟩
    · exact needE_at r h.2 i hi

/-- As partsOk, without new variables; the end waits for all by edges of its own (so it is seen without going through all that it waits for). -/
def partsOkD (ops : Array Oper) (vs bs : List Nat) : Bool :=
  ((List.range ops.size).all fun i => vs.contains i || ([] : List Nat).contains i || bs.contains i) &&
  (vs.all fun i => decide (i < ops.size) && !([] : List Nat).contains i && !bs.contains i) && (([] : List Nat).all fun i => decide (i < ops.size) && !bs.contains i) && (bs.all fun i => decide (i < ops.size)) &&
  decide (vs.Pairwise (· < ·)) && decide (([] : List Nat).Nodup) &&
  (vs.all fun j => match ops[j]? with
    | some oj => (oj.after.all fun e => !Region.binds .any e || (vs.contains e.on && decide (e.on < j))) &&
        (vs.all fun i => !decide (i < j) || (oj.after.any fun e => Region.binds .any e && e.on == i) || (match ops[i]? with | some oi => oi.apart ops oj | none => false)) &&
        (([] : List Nat).all fun i => match ops[i]? with | some oi => oi.apart ops oj && oj.apart ops oi | none => false)
    | none => false) &&
  (([] : List Nat).all fun j => match ops[j]? with
    | some oj => (oj.after.all fun e => !Region.binds .any e) && oj.guard.isNone && (([] : List Nat).all fun i => i == j || (match ops[i]? with | some oi => oi.apart ops oj | none => false))
    | none => false) &&
  (bs.zipIdx.all fun (j, k) => match ops[j]? with
    | some oj => (oj.after.all fun e => !Region.binds .any e || vs.contains e.on || ([] : List Nat).contains e.on || (bs.take k).contains e.on) &&
        ((vs ++ [] ++ bs.take k).all fun x => oj.after.any fun e => Region.binds .any e && e.on == x)
    | none => false)
theorem partsOk_of_direct {vs bs : List Nat} (h : partsOkD ops vs bs = true) : partsOk ops vs [] bs = true := by
  unfold partsOkD at h
  unfold partsOk
  rw [Bool.and_eq_true] at h ⊢
  refine ⟨h.1, ?_⟩
  have h2 := h.2
  rw [List.all_eq_true] at h2 ⊢
  intro q hq
  have h3 := h2 q hq
  obtain ⟨j, k⟩ := q
  simp only at h3 ⊢
  cases ho : ops[j]? with
  | none => rw [ho] at h3; exact h3
  | some oj =>
    rw [ho] at h3
    simp only [Bool.and_eq_true] at h3 ⊢
    refine ⟨h3.1, ?_⟩
    have h4 := h3.2
    rw [List.all_eq_true] at h4 ⊢
    intro x hx
    have h5 := h4 x hx
    have hsz : ops.size = (ops.size - 1) + 1 := by
      have := (Array.getElem?_eq_some_iff.1 ho).1
      omega
    rw [hsz]
    unfold waits
    rw [ho]
    simp only [Array.any_eq_true', Bool.and_eq_true, Bool.or_eq_true] at h5 ⊢
    obtain ⟨e, he, hb, hx⟩ := h5
    exact ⟨e, he, hb, .inl hx⟩

/-- THE LAW. -/
theorem wp_region_pred {id : Nat} {a : Act} {w : World} (S : World → Prop) (vs bs : List Nat) (Φ : Nat → World → Value → Prop) (dl : List (List (Nat × Option Tmp))) (al : List (Nat × Option Tmp)) (hm : P.follows .mixedOrders = true) (hs : Region.noSelect ops = true) (hok : partsOkD ops vs bs = true) (hdst : dstsOk ops vs = true)
    (hdl : (vs.map fun i => (depsOf ops vs i).map fun d => (d, dstOf ops d)) = dl) (hal : (vs.map fun d => (d, dstOf ops d)) = al) (hbnd : bs.Nodup) (hlen : vs.length + bs.length ≤ ops.size) (hmono : Stays S) (hΦ : ∀ i w w' v, Φ i w v → Below w.heap.size w w' → Φ i w' v) (hS : S w.drew)
    (need : NeedE P ops S Φ a vs dl)
    (hD : ∀ (γ : Nat → Value) (w : World), S w → AllE Φ γ w al → wpOps P ops Q bs (putE γ al a) w) : (Code.region id ops true).wp P Q a w := by
  have hl0 : ∀ i, (Array.replicate ops.size false).getD i false = false := fun i => by
    by_cases hi : i < ops.size <;> simp [hi]
  subst hdl hal
  refine wp_region_any hm ?_
  exact wpAny_pred (Q := Q) hmono (Region.noSelect_spec hs) (partsOk_of_direct hok) hdst hbnd hΦ (fun i hi γ wx hSx h => needE_at vs need i hi γ wx hSx h) (fun γ wx hSx h => by rw [← putE_eq]; exact hD γ wx hSx (allE_eq _ h))
    ops.size (Array.replicate ops.size false) (fun _ => undef) [] w.drew (by simp) (by simp) (fun i hi => by cases hi) (fun i _ => by simp [hl0]) (fun i _ => hl0 i)
    (fun i o e hi => by rw [hl0] at hi; cases hi) (Nat.le_trans (Nat.add_le_add_right (List.length_filter_le _ _) _) hlen) hS (fun i hi => by cases hi)
theorem predRun_value {w : World} {V : World → Value → Prop} {r : Result Next} {v : Value} (h : r = .ok (.value v) w) (hv : V w v) : PredRun P w V r := by
  rw [h]
  exact ⟨hv, Below.refl _ _⟩
theorem predRun_new {w w' : World} {V : World → Value → Prop} {r : Result Next} {v : Value} (h : r = .ok (.value v) w') (hb : Below w.heap.size w w') (hv : V w' v) : PredRun P w V r := by
  rw [h]
  exact ⟨hv, hb⟩
theorem predRun_call {w : World} {V : World → Value → Prop} {r : Result Next} {f : FuncId} {args : Array Value} (h : r = .ok (.enter f args) w) (hc : Calls P f args w (fun e w'' => ∃ v, e = .returned v ∧ V w'' v ∧ Below w.heap.size w w'')) : PredRun P w V r := by
  rw [h]
  exact ⟨rfl, hc⟩
theorem exec_load_blk {o : Oper} {a : Act} {w : World} (ty : TypeId) (x : Operand) (ho : o.op = .load ty x)
    (g : Nat) (hx : a.eval x = .pointer (some ⟨g, 0, none⟩)) (t : TypeId) (cs : Array Value) (fr : Nat × Nat) (d : TypeDesc) (hg : w.heap[g]? = some (.cells cs t fr))
    (hu : P.underlying ty = some d) (hd : (match d with | .struct _ | .array _ _ => true | _ => false) = true) (hi : (P.info? ty).map (·.size) = some cs.size) :
    (execOp a.eval o).run P w = .ok (.value (.agg cs)) w := by
  unfold execOp
  simp only [ho, hx, Instr.loadAt, Instr.sureAddr, Sem.run_bind, Sem.run_pure, Result.andThen_ok, run_loadVar_row w g t ty cs fr d hg hu hd hi]
end
end Go.Proofs.Ytioeaknhcfkfcaa
