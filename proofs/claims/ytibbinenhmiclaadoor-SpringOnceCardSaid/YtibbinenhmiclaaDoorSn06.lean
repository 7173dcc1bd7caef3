/-
  A third law of this seat's own on regions that draw their order: of each operation it is known what its result is like (a condition that stays, whatever is made besides), not which value it is: so calls may hand back memory that they made, whose place hangs on the order. The end is walked one behind the other.
  ladder.withRung, the document's Text of a place with a rung.
  The document's Mac.
  mac.Cost, the document's Cost.
  The tag of the example, by the kernel.
  The laws' awake of layer 5.
  Sums held against each other.
  The document's Tag; the law MacTags, walked.
  The law MacShorts, walked.
  ladder.Leaf, ladder.Join.
  The document's LeafText, JoinText.
  The document's JoinText, Of.
  ladder.Leaf.
-/
import Derived.Test.YtibbinenhmiclaaDoorSn05
import Derived.Laws.Rows
import Derived.Stop.BytesEq
namespace Go.Proofs.YtibbinenhmiclaaDoor
open Go.RowKit

section
variable {P : Program} {ops : Array Oper} {Q : Exit → Act → World → Prop} {S : World → Prop}

/-- What a run, begun in world w, comes to: a value that meets V; all that was in memory is as it was. -/
def PredRun (P : Program) (w : World) (V : World → Value → Prop) : Result Next → Prop
  | .ok (.value u) w' => V w' u ∧ Below w.heap.size w w'
  | .ok (.enter f args) w' => w' = w ∧ Calls P f args w (fun e w'' => ∃ v, e = .returned v ∧ V w'' v ∧ Below w.heap.size w w'')
  | _ => False

def PredOp (P : Program) (ops : Array Oper) (o : Oper) (V : World → Value → Prop) (a : Act) (w : World) : Prop :=
  (Region.wanted o (yielded ops a.tmps) = true ∧ PredRun P w V ((execOp a.eval o).run P w)) ∨ (Region.wanted o (yielded ops a.tmps) = false ∧ V w undef)

theorem PredOp.of_same {o : Oper} {V : World → Value → Prop} {a a' : Act} {w : World} (hy : PredOp P ops o V a w) (he : execOp a'.eval o = execOp a.eval o)
    (hw : Region.wanted o (yielded ops a'.tmps) = Region.wanted o (yielded ops a.tmps)) : PredOp P ops o V a' w := by
  unfold PredOp at *
  rw [he, hw]
  exact hy

theorem PredOp.wpOp {i : Nat} {o : Oper} {V : World → Value → Prop} {a : Act} (hi : ops[i]? = some o) {K : Act → World → Prop} {w : World} (hy : PredOp P ops o V a w)
    (h : ∀ v w', V w' v → Below w.heap.size w w' → K (a.put o.dst v) w') : wpOp P ops Q i K a w := by
  unfold Go.wpOp
  simp only [hi]
  rcases hy with ⟨hw, hg⟩ | ⟨hw, hv⟩
  · simp only [hw, if_true, Oper.wp]
    generalize (execOp a.eval o).run P w = r at hg
    refine .inl ?_
    cases r with
    | ok n w' =>
      cases n with
      | value u => exact h _ _ hg.1 hg.2
      | enter f args =>
        obtain ⟨rfl, hg⟩ := hg
        refine Calls.mono hg fun e w'' he => ?_
        obtain ⟨v, rfl, hv, hb⟩ := he
        exact h _ _ hv hb
      | _ => exact hg.elim
    | halt x w' => exact hg.elim
  · simp only [hw, Bool.false_eq_true, if_false]
    exact h _ _ hv (Below.refl _ _)

/-- The values that have come, in their slots. -/
def putD (ops : Array Oper) (γ : Nat → Value) : List Nat → Act → Act
  | [], a => a
  | i :: r, a => putD ops γ r (a.put (dstOf ops i) (γ i))
theorem putD_append (γ : Nat → Value) : ∀ (l m : List Nat) (a : Act), putD ops γ (l ++ m) a = putD ops γ m (putD ops γ l a)
  | [], _, _ => rfl
  | _i :: r, m, _a => putD_append γ r m _
theorem putD_congr {γ γ' : Nat → Value} : ∀ (l : List Nat) (a : Act), (∀ i ∈ l, γ i = γ' i) → putD ops γ l a = putD ops γ' l a
  | [], _, _ => rfl
  | i :: r, a, h => by
    unfold putD
    rw [h i (by simp)]
    exact putD_congr r _ fun j hj => h j (List.mem_cons_of_mem _ hj)
theorem putD_perm (γ : Nat → Value) {l m : List Nat} (hp : l.Perm m) : (∀ x ∈ l, ∀ y ∈ l, x ≠ y → ∀ t, dstOf ops x = some t → dstOf ops y ≠ some t) → ∀ a : Act, putD ops γ l a = putD ops γ m a := by
  induction hp with
  | nil => exact fun _ _ => rfl
  | cons x _ ih => exact fun h a => ih (fun y hy z hz => h y (List.mem_cons_of_mem _ hy) z (List.mem_cons_of_mem _ hz)) _
  | swap x y l =>
    intro h a
    unfold putD
    unfold putD
    by_cases hxy : x = y
    · subst hxy; rfl
    · rw [put_same_apart (γ y) (γ x) (h y (by simp) x (by simp) (Ne.symm hxy))]
  | trans h1 _ ih1 ih2 => exact fun h a => (ih1 h a).trans (ih2 (fun x hx y hy => h x (h1.mem_iff.2 hx) y (h1.mem_iff.2 hy)) a)
theorem same_putD (γ : Nat → Value) (o : Oper) (hs : ∀ cs b, o.op ≠ .select cs b) : ∀ (l : List Nat) (a : Act), (∀ i ∈ l, ∀ t, dstOf ops i = some t → t ∉ o.looksAt ops) →
    execOp (putD ops γ l a).eval o = execOp a.eval o ∧ Region.wanted o (yielded ops (putD ops γ l a).tmps) = Region.wanted o (yielded ops a.tmps)
  | [], _, _ => ⟨rfl, rfl⟩
  | i :: r, a, h => by
    obtain ⟨h1, h2⟩ := same_putD γ o hs r (a.put (dstOf ops i) (γ i)) fun j hj => h j (List.mem_cons_of_mem _ hj)
    unfold putD
    exact ⟨h1.trans (execOp_put o hs a _ _ (h i (by simp))), h2.trans (wanted_put o a _ _ (h i (by simp)))⟩

/-- For which of vs number i waits. -/
def depsOf (ops : Array Oper) (vs : List Nat) (i : Nat) : List Nat := vs.filter fun x => match ops[i]? with | some o => o.after.any fun e => Region.binds .any e && e.on == x | none => false
theorem mem_depsOf {vs : List Nat} {i x : Nat} {o : Oper} (ho : ops[i]? = some o) : x ∈ depsOf ops vs i ↔ x ∈ vs ∧ ∃ e ∈ o.after, Region.binds .any e = true ∧ e.on = x := by
  unfold depsOf
  rw [List.mem_filter, ho]
  simp only [Array.any_eq_true', Bool.and_eq_true, beq_iff_eq]
/-- The slots that are written are different ones. -/
def dstsOk (ops : Array Oper) (vs : List Nat) : Bool := vs.all fun x => vs.all fun y => x == y || match dstOf ops x, dstOf ops y with | some s, some t => s != t | _, _ => true
theorem dstsOk_spec {vs : List Nat} (h : dstsOk ops vs = true) : ∀ x ∈ vs, ∀ y ∈ vs, x ≠ y → ∀ t, dstOf ops x = some t → dstOf ops y ≠ some t := by
  intro x hx y hy hne t ht ht2
  unfold dstsOk at h
  simp only [List.all_eq_true, Bool.or_eq_true, beq_iff_eq] at h
  rcases h x hx y hy with h | h
  · exact hne h
  · rw [ht, ht2] at h
    simp at h

theorem wpAny_pred (hmono : Stays S) (hs : ∀ (j : Nat) (o : Oper) cs b, ops[j]? = some o → o.op ≠ .select cs b) {vs bs : List Nat} (hok : partsOk ops vs [] bs = true) (hdst : dstsOk ops vs = true) (hbnd : bs.Nodup)
    {Φ : Nat → World → Value → Prop} (hΦ : ∀ i w w' v, Φ i w v → Below w.heap.size w w' → Φ i w' v) {a0 : Act}
    (need : ∀ i ∈ vs, ∀ (γ : Nat → Value) (w : World), S w → (∀ d ∈ depsOf ops vs i, Φ d w (γ d)) → ∃ o, ops[i]? = some o ∧ PredOp P ops o (Φ i) (putD ops γ (depsOf ops vs i) a0) w)
    (hD : ∀ (γ : Nat → Value) (w : World), S w → (∀ i ∈ vs, Φ i w (γ i)) → wpOps P ops Q bs (putD ops γ vs a0) w) :
    ∀ (fuel : Nat) (listed : Array Bool) (γ : Nat → Value) (L : List Nat) (w : World), listed.size = ops.size → L.Nodup → (∀ i ∈ L, i ∈ vs) → (∀ i ∈ vs, i ∈ L ↔ listed.getD i false = true) → (∀ i ∈ bs, listed.getD i false = false) →
      Closed ops listed → (vs.filter fun i => !L.contains i).length + bs.length ≤ fuel → S w → (∀ i ∈ L, Φ i w (γ i)) → wpAny P .any ops Q fuel listed (putD ops γ L a0) w := by
  obtain ⟨hall, hvs, _, hbs, hlt, _, hV, _, hB⟩ := partsOk_spec hok
  have hnd : vs.Nodup := hlt.imp fun h => by omega
  have hdd := dstsOk_spec hdst
  -- where all of vs have come up
  have hend : ∀ (fuel : Nat) (listed : Array Bool) (γ : Nat → Value) (L : List Nat) (w : World), listed.size = ops.size → L.Nodup → (∀ i ∈ L, i ∈ vs) → (∀ i ∈ vs, i ∈ L ↔ listed.getD i false = true) → (∀ i ∈ bs, listed.getD i false = false) →
      bs.length ≤ fuel → S w → (∀ i ∈ L, Φ i w (γ i)) → (∀ i ∈ vs, i ∈ L) → wpAny P .any ops Q fuel listed (putD ops γ L a0) w := by
    intro fuel listed γ L w hsz hLn hLv hl hbl hf hS hg hfull
    have hp : L.Perm vs := (List.perm_ext_iff_of_nodup hLn hnd).2 fun x => ⟨hLv x, hfull x⟩
    rw [putD_perm γ hp (fun x hx y hy => hdd x (hLv x hx) y (hLv y hy)) a0]
    refine wpAny_end hok bs 0 fuel listed _ w rfl hsz hf hbnd (fun i hi => ?_) (hD γ w hS fun i hi => hg i (hfull i hi))
    rcases hall i hi with h | h | h
    · exact ⟨fun _ hib => (hvs i h).2.2 hib, fun _ => (hl i h).1 (hfull i h)⟩
    · cases h
    · exact ⟨fun ht => (by rw [hbl i h] at ht; cases ht), fun hn => absurd h hn⟩
  intro fuel
  induction fuel with
  | zero =>
    intro listed γ L w hsz hLn hLv hl hbl _ hf hS hg
    have h0 : (vs.filter fun i => !L.contains i) = [] := List.length_eq_zero_iff.1 (by omega)
    refine hend 0 listed γ L w hsz hLn hLv hl hbl (by omega) hS hg fun i hi => ?_
    have := List.filter_eq_nil_iff.1 h0 i hi
    simpa using this
  | succ fuel ih =>
    intro listed γ L w hsz hLn hLv hl hbl hcl hf hS hg
    by_cases hfull : ∀ i ∈ vs, i ∈ L
    · exact hend _ listed γ L w hsz hLn hLv hl hbl (by omega) hS hg hfull
    refine ⟨fun hr => ?_, fun i hi => ?_⟩
    · -- something is ready
      exfalso
      apply hfull
      have : ∀ n i, i ≤ n → i ∈ vs → i ∈ L := by
        intro n
        induction n with
        | zero =>
          intro i hin hi
          false_or_by_contra
          rename_i hiL
          have hio := Array.getElem?_eq_getElem (hvs i hi).1
          have hm : i ∈ Region.ready .any ops listed := mem_ready.2 ⟨by rw [getD_flip (by rw [hsz]; exact (hvs i hi).1)]; have := fun h => hiL ((hl i hi).2 h); simpa using this, _, hio, fun e he hb => by
            have := ((hV i hi _ hio).1 e he hb).2
            omega⟩
          rw [hr] at hm
          cases hm
        | succ n ihn =>
          intro i hin hi
          false_or_by_contra
          rename_i hiL
          have hio := Array.getElem?_eq_getElem (hvs i hi).1
          have hm : i ∈ Region.ready .any ops listed := mem_ready.2 ⟨by rw [getD_flip (by rw [hsz]; exact (hvs i hi).1)]; have := fun h => hiL ((hl i hi).2 h); simpa using this, _, hio, fun e he hb => by
            obtain ⟨h1, h2⟩ := (hV i hi _ hio).1 e he hb
            have := (hl e.on h1).1 (ihn e.on (by omega) h1)
            exact this⟩
          rw [hr] at hm
          cases hm
      exact fun i hi => this i i (Nat.le_refl _) hi
    · obtain ⟨h0, oi, hoi, hdeps⟩ := mem_ready.1 hi
      have hin : i < ops.size := (Array.getElem?_eq_some_iff.1 hoi).1
      have h0' : listed.getD i false = false := by rw [← getD_flip (by rw [hsz]; exact hin)]; exact h0
      rcases hall i hin with hiv | hiv | hib
      · have hiL : i ∉ L := fun h => by rw [(hl i hiv).1 h] at h0'; cases h0'
        have hdL : ∀ d ∈ depsOf ops vs i, d ∈ L := fun d hd => by
          obtain ⟨hdv, e, he, hb, heq⟩ := (mem_depsOf hoi).1 hd
          have := hdeps e he hb
          rw [heq] at this
          exact (hl d hdv).2 this
        obtain ⟨o, ho, hop⟩ := need i hiv γ w hS fun d hd => hg d (hdL d hd)
        rw [hoi] at ho
        cases ho
        -- what has come up besides does not matter
        have hp : L.Perm (depsOf ops vs i ++ L.filter fun x => !(depsOf ops vs i).contains x) := by
          have h1 := (List.filter_append_perm (fun x => (depsOf ops vs i).contains x) L).symm
          refine h1.trans (List.Perm.append_right _ ?_)
          refine (List.perm_ext_iff_of_nodup (hLn.filter _) (hnd.filter _)).2 fun x => ?_
          rw [List.mem_filter]
          simp only [List.contains_eq_mem, decide_eq_true_eq]
          exact ⟨fun h => h.2, fun h => ⟨hdL x h, h⟩⟩
        have hput : putD ops γ L a0 = putD ops γ (L.filter fun x => !(depsOf ops vs i).contains x) (putD ops γ (depsOf ops vs i) a0) := by
          rw [putD_perm γ hp (fun x hx y hy => hdd x (hLv x hx) y (hLv y hy)) a0, putD_append]
        have hsame := same_putD (ops := ops) γ oi (fun cs b => hs i oi cs b hoi) (L.filter fun x => !(depsOf ops vs i).contains x) (putD ops γ (depsOf ops vs i) a0) fun x hx t ht => by
          obtain ⟨hxL, hxd⟩ := List.mem_filter.1 hx
          have hxv := hLv x hxL
          have hxo := Array.getElem?_eq_getElem (hvs x hxv).1
          have hxd' : x ∉ depsOf ops vs i := by simpa using hxd
          have hdx : (ops[x]'(hvs x hxv).1).dst = some t := by
            unfold dstOf at ht
            rw [hxo] at ht
            exact ht
          have hno : ∀ e ∈ oi.after, Region.binds .any e = true → e.on ≠ x := fun e he hb heq => hxd' ((mem_depsOf hoi).2 ⟨hxv, e, he, hb, heq⟩)
          have hne : x ≠ i := fun e => hiL (e ▸ hxL)
          rcases Nat.lt_or_gt_of_ne hne with hxi | hxi
          · exact (Oper.apart_spec ((hV i hiv oi hoi).2.1 x hxv hxi _ hxo hno)).1 t hdx
          · have hap := (hV x hxv _ hxo).2.1 i hiv hxi oi hoi fun e he hb heq => by
              have := hcl x _ e ((hl x hxv).1 hxL) hxo he hb
              rw [heq, h0'] at this
              cases this
            exact (Oper.apart_spec hap).2.2 t hdx
        rw [hput]
        refine (hop.of_same hsame.1 hsame.2).wpOp hoi fun v w' hv hb => ?_
        rw [← hput]
        have hγ : (putD ops γ L a0).put oi.dst v = putD ops (fun k => if k = i then v else γ k) (L ++ [i]) a0 := by
          rw [putD_append, putD_congr (γ := fun k => if k = i then v else γ k) (γ' := γ) L a0 fun k hk => (if_neg (fun e : k = i => hiL (e ▸ hk)) : (if k = i then v else γ k) = γ k)]
          show (putD ops γ L a0).put oi.dst v = (putD ops γ L a0).put (dstOf ops i) (if i = i then v else γ i)
          rw [if_pos rfl]
          unfold dstOf
          rw [hoi]
          rfl
        rw [hγ]
        refine ih _ _ _ _ (by simpa using hsz) ?_ ?_ ?_ ?_ (closed_set hcl hi) ?_ (hmono _ _ hS hb) ?_
        · rw [List.nodup_append]
          exact ⟨hLn, by simp, fun x hx y hy e => by simp at hy; exact hiL (hy ▸ e ▸ hx)⟩
        · intro x hx
          rcases List.mem_append.1 hx with h | h
          · exact hLv x h
          · simp at h; exact h ▸ hiv
        · intro x hx
          rw [listed_set (by rw [hsz]; exact hin), List.mem_append]
          by_cases hxi : x = i
          · subst hxi; simp
          · rw [if_neg hxi, ← hl x hx]; simp [hxi]
        · intro x hx
          have hxi : x ≠ i := fun e => (hvs i hiv).2.2 (e ▸ hx)
          rw [listed_set (by rw [hsz]; exact hin), if_neg hxi]
          exact hbl x hx
        · have hlen : (vs.filter fun x => !(L ++ [i]).contains x).length < (vs.filter fun x => !L.contains x).length := by
            have hsub : (vs.filter fun x => !(L ++ [i]).contains x) = (vs.filter fun x => !L.contains x).filter fun x => x != i := by
              rw [List.filter_filter]
              congr 1
              funext x
              simp only [List.contains_eq_mem, List.mem_append, List.mem_singleton]
              by_cases h1 : x ∈ L <;> by_cases h2 : x = i <;> simp [h1, h2]
            rw [hsub]
            refine List.length_filter_lt_length_iff_exists.2 ⟨i, List.mem_filter.2 ⟨hiv, by simpa using hiL⟩, by simp⟩
          omega
        · intro x hx
          rcases List.mem_append.1 hx with h | h
          · have hxi : x ≠ i := fun e => hiL (e ▸ h)
            show Φ x w' (if x = i then v else γ x)
            rw [if_neg hxi]
            exact hΦ x w w' _ (hg x h) hb
          · simp at h
            subst h
            show Φ x w' (if x = x then v else γ x)
            rw [if_pos rfl]
            exact hv
      · cases hiv
      · exfalso
        apply hfull
        intro x hx
        obtain ⟨k, hk⟩ := List.getElem?_of_mem hib
        have hw := (hB k i hk oi hoi).2 x (.inl hx)
        exact (hl x hx).2 (waits_listed hcl ops.size i x oi hoi hdeps hw)

/-- The values that have come, in the slots that are named. -/
def putE (γ : Nat → Value) : List (Nat × Option Tmp) → Act → Act
  | [], a => a
  | p :: r, a => putE γ r (a.put p.2 (γ p.1))
theorem putE_eq (γ : Nat → Value) : ∀ (l : List Nat) (a : Act), putE γ (l.map fun d => (d, dstOf ops d)) a = putD ops γ l a
  | [], _ => rfl
  | _ :: r, _ => putE_eq γ r _
/-- All that is known of these values. -/
def AllE (Φ : Nat → World → Value → Prop) (γ : Nat → Value) (w : World) : List (Nat × Option Tmp) → Prop
  | [] => True
  | [p] => Φ p.1 w (γ p.1)
  | p :: r => Φ p.1 w (γ p.1) ∧ AllE Φ γ w r
theorem allE_eq {Φ : Nat → World → Value → Prop} {γ : Nat → Value} {w : World} : ∀ l : List Nat, (∀ d ∈ l, Φ d w (γ d)) → AllE Φ γ w (l.map fun d => (d, dstOf ops d))
  | [], _ => trivial
  | [d], h => h d (by simp)
  | d :: e :: r, h => ⟨h d (by simp), allE_eq (e :: r) fun x hx => h x (List.mem_cons_of_mem _ hx)⟩
/-- What is to be shown of the operations, one by one: each with what it waits for. -/
def NeedE (P : Program) (ops : Array Oper) (S : World → Prop) (Φ : Nat → World → Value → Prop) (a0 : Act) : List Nat → List (List (Nat × Option Tmp)) → Prop
  | i :: r, d :: ds => (∀ (γ : Nat → Value) (w : World), S w → AllE Φ γ w d → ∃ o, ops[i]? = some o ∧ PredOp P ops o (Φ i) (putE γ d a0) w) ∧ NeedE P ops S Φ a0 r ds
  | _, _ => True
theorem needE_at {vs : List Nat} {Φ : Nat → World → Value → Prop} {a0 : Act} : ∀ l : List Nat, NeedE P ops S Φ a0 l (l.map fun i => (depsOf ops vs i).map fun d => (d, dstOf ops d)) → ∀ i ∈ l, ∀ (γ : Nat → Value) (w : World), S w → (∀ d ∈ depsOf ops vs i, Φ d w (γ d)) → ∃ o, ops[i]? = some o ∧ PredOp P ops o (Φ i) (putD ops γ (depsOf ops vs i) a0) w
  | [], _, _, hi => by cases hi
  | j :: r, h, i, hi => by
    rcases List.mem_cons.1 hi with rfl | hi
    · intro γ w hS hd
      obtain ⟨o, ho, hp⟩ := h.1 γ w hS (allE_eq _ hd)
      rw [putE_eq] at hp
      exact ⟨o, ho, hp⟩
    · exact needE_at r h.2 i hi

/-- As partsOk, without new variables; the end waits for all by edges of its own (so it is seen without going through all that it waits for). -/
def partsOkD (ops : Array Oper) (vs bs : List Nat) : Bool :=
  ((List.range ops.size).all fun i => vs.contains i || ([] : List Nat).contains i || bs.contains i) &&
  (vs.all fun i => decide (i < ops.size) && !([] : List Nat).contains i && !bs.contains i) && (([] : List Nat).all fun i => decide (i < ops.size) && !bs.contains i) && (bs.all fun i => decide (i < ops.size)) &&
  decide (vs.Pairwise (· < ·)) && decide (([] : List Nat).Nodup) &&
  (vs.all fun j => match ops[j]? with
    | some oj => (oj.after.all fun e => !Region.binds .any e || (vs.contains e.on && decide (e.on < j))) &&
        (vs.all fun i => !decide (i < j) || (oj.after.any fun e => Region.binds .any e && e.on == i) || (match ops[i]? with | some oi => oi.apart ops oj | none => false)) &&
        (([] : List Nat).all fun i => match ops[i]? with | some oi => oi.apart ops oj && oj.apart ops oi | none => false)
    | none => false) &&
  (([] : List Nat).all fun j => match ops[j]? with
    | some oj => (oj.after.all fun e => !Region.binds .any e) && oj.guard.isNone && (([] : List Nat).all fun i => i == j || (match ops[i]? with | some oi => oi.apart ops oj | none => false))
    | none => false) &&
  (bs.zipIdx.all fun (j, k) => match ops[j]? with
    | some oj => (oj.after.all fun e => !Region.binds .any e || vs.contains e.on || ([] : List Nat).contains e.on || (bs.take k).contains e.on) &&
        ((vs ++ [] ++ bs.take k).all fun x => oj.after.any fun e => Region.binds .any e && e.on == x)
    | none => false)
theorem partsOk_of_direct {vs bs : List Nat} (h : partsOkD ops vs bs = true) : partsOk ops vs [] bs = true := by
  unfold partsOkD at h
  unfold partsOk
  rw [Bool.and_eq_true] at h ⊢
  refine ⟨h.1, ?_⟩
  have h2 := h.2
  rw [List.all_eq_true] at h2 ⊢
  intro q hq
  have h3 := h2 q hq
  obtain ⟨j, k⟩ := q
  simp only at h3 ⊢
  cases ho : ops[j]? with
  | none => rw [ho] at h3; exact h3
  | some oj =>
    rw [ho] at h3
    simp only [Bool.and_eq_true] at h3 ⊢
    refine ⟨h3.1, ?_⟩
    have h4 := h3.2
    rw [List.all_eq_true] at h4 ⊢
    intro x hx
    have h5 := h4 x hx
    have hsz : ops.size = (ops.size - 1) + 1 := by
      have := (Array.getElem?_eq_some_iff.1 ho).1
      omega
    rw [hsz]
    unfold waits
    rw [ho]
    simp only [Array.any_eq_true', Bool.and_eq_true, Bool.or_eq_true] at h5 ⊢
    obtain ⟨e, he, hb, hx⟩ := h5
    exact ⟨e, he, hb, .inl hx⟩

/-- THE LAW. -/
theorem wp_region_pred {id : Nat} {a : Act} {w : World} (S : World → Prop) (vs bs : List Nat) (Φ : Nat → World → Value → Prop) (dl : List (List (Nat × Option Tmp))) (al : List (Nat × Option Tmp)) (hm : P.follows .mixedOrders = true) (hs : Region.noSelect ops = true) (hok : partsOkD ops vs bs = true) (hdst : dstsOk ops vs = true)
    (hdl : (vs.map fun i => (depsOf ops vs i).map fun d => (d, dstOf ops d)) = dl) (hal : (vs.map fun d => (d, dstOf ops d)) = al) (hbnd : bs.Nodup) (hlen : vs.length + bs.length ≤ ops.size) (hmono : Stays S) (hΦ : ∀ i w w' v, Φ i w v → Below w.heap.size w w' → Φ i w' v) (hS : S w.drew)
    (need : NeedE P ops S Φ a vs dl)
    (hD : ∀ (γ : Nat → Value) (w : World), S w → AllE Φ γ w al → wpOps P ops Q bs (putE γ al a) w) : (Code.region id ops true).wp P Q a w := by
  have hl0 : ∀ i, (Array.replicate ops.size false).getD i false = false := fun i => by
    by_cases hi : i < ops.size <;> simp [hi]
  subst hdl hal
  refine wp_region_any hm ?_
  exact wpAny_pred (Q := Q) hmono (Region.noSelect_spec hs) (partsOk_of_direct hok) hdst hbnd hΦ (fun i hi γ wx hSx h => needE_at vs need i hi γ wx hSx h) (fun γ wx hSx h => by rw [← putE_eq]; exact hD γ wx hSx (allE_eq _ h))
    ops.size (Array.replicate ops.size false) (fun _ => undef) [] w.drew (by simp) (by simp) (fun i hi => by cases hi) (fun i _ => by simp [hl0]) (fun i _ => hl0 i)
    (fun i o e hi => by rw [hl0] at hi; cases hi) (Nat.le_trans (Nat.add_le_add_right (List.length_filter_le _ _) _) hlen) hS (fun i hi => by cases hi)
theorem predRun_value {w : World} {V : World → Value → Prop} {r : Result Next} {v : Value} (h : r = .ok (.value v) w) (hv : V w v) : PredRun P w V r := by
  rw [h]
  exact ⟨hv, Below.refl _ _⟩
theorem predRun_new {w w' : World} {V : World → Value → Prop} {r : Result Next} {v : Value} (h : r = .ok (.value v) w') (hb : Below w.heap.size w w') (hv : V w' v) : PredRun P w V r := by
  rw [h]
  exact ⟨hv, hb⟩
theorem predRun_call {w : World} {V : World → Value → Prop} {r : Result Next} {f : FuncId} {args : Array Value} (h : r = .ok (.enter f args) w) (hc : Calls P f args w (fun e w'' => ∃ v, e = .returned v ∧ V w'' v ∧ Below w.heap.size w w'')) : PredRun P w V r := by
  rw [h]
  exact ⟨rfl, hc⟩
theorem exec_load_blk {o : Oper} {a : Act} {w : World} (ty : TypeId) (x : Operand) (ho : o.op = .load ty x)
    (g : Nat) (hx : a.eval x = .pointer (some ⟨g, 0, none⟩)) (t : TypeId) (cs : Array Value) (fr : Nat × Nat) (d : TypeDesc) (hg : w.heap[g]? = some (.cells cs t fr))
    (hu : P.underlying ty = some d) (hd : (match d with | .struct _ | .array _ _ => true | _ => false) = true) (hi : (P.info? ty).map (·.size) = some cs.size) :
    (execOp a.eval o).run P w = .ok (.value (.agg cs)) w := by
  unfold execOp
  simp only [ho, hx, Instr.loadAt, Instr.sureAddr, Sem.run_bind, Sem.run_pure, Result.andThen_ok, run_loadVar_row w g t ty cs fr d hg hu hd hi]
end
end Go.Proofs.YtibbinenhmiclaaDoor

namespace Go.Proofs.YtibbinenhmiclaaDoor
open Go.RowKit

/-- A place. -/
abbrev plV (d e s : Int) : Value := .agg #[.int .i64 d, .int .u32 e, .int .u32 s]
/-- A place with a rung, as bytes. -/
def placeL (d e s r : Int) : List Int := [d % 256] ++ be32 e ++ be32 s ++ [r % 256]
theorem placeL_len (d e s r : Int) : (placeL d e s r).length = 10 := rfl
theorem numL_four (x : Int) : numL x 4 = be32 x := by
  show [x / 16777216 % 256, x / 65536 % 256, x / 256 % 256, x / 1 % 256] = _
  rw [Int.ediv_one]
  rfl
/-- What stands behind so many of the two numbers. -/
def plS (d e s : Int) : Nat → List Int
  | 0 => [d % 256]
  | 1 => [d % 256] ++ be32 e
  | _ => [d % 256] ++ be32 e ++ be32 s
theorem plS_bytes (d e s : Int) (r : Int) : Bytes (placeL d e s r) := by
  unfold placeL
  refine ((Bytes.append ?_ (be32_bytes e)).append (be32_bytes s)).append ?_
  · intro x hx; simp at hx; omega
  · intro x hx; simp at hx; omega
/-- Four bytes in a new block, as a slice. -/
theorem four_holds (w : World) (x : Int) (h0 : 0 ≤ x) (h1 : x < 4294967296) : HoldsB (w.alloc (.cells #[.int .u8 (x / 16777216), .int .u8 (x / 65536 % 256), .int .u8 (x / 256 % 256), .int .u8 (x % 256)] 5)) (w.alloc (.cells #[.int .u8 (x / 16777216), .int .u8 (x / 65536 % 256), .int .u8 (x / 256 % 256), .int .u8 (x % 256)] 5)).heap.size (.slice (some ⟨w.heap.size, 0, none⟩) 4 4) (be32 x) := by
  have e : x / 16777216 = x / 16777216 % 256 := by omega
  rw [e]
  exact HoldsB.ofRow2 (off := 0) (Blk.new w _) rfl (Nat.le_refl _) (by unfold maxLen; omega) (fun i hi => match i, hi with | 0, _ => rfl | 1, _ => rfl | 2, _ => rfl | 3, _ => rfl | i + 4, hi => absurd hi (by simp [be32])) (be32_bytes x)
set_option maxRecDepth 100000 in
set_option maxHeartbeats 1000000 in
theorem withRung_any (d e s r : Int) (w : World) (he : 0 ≤ e ∧ e < 4294967296) (hs : 0 ≤ s ∧ s < 4294967296) :
    Calls Tryd.prog 95 #[plV d e s, .int .i64 r] w fun q w' => ∃ v', q = .returned v' ∧ HoldsB w' w'.heap.size v' (placeL d e s r) ∧ Below w.heap.size w w' := by
  have e0 := he.1
  have e1 := he.2
  have s0 := hs.1
  have s1 := hs.2
  clear he hs
  go_enter Tryd.func95, Tryd.ntmps95
  go_wp2_with fail
  obtain ⟨A, hA⟩ : ∃ A, A = w.heap.size := ⟨_, rfl⟩
  have HA := Kp.mk hA
  rw [← hA]
  obtain ⟨B, hB⟩ : ∃ B, B = A + 1 := ⟨_, rfl⟩
  have HB := Kp.mk hB
  refine wp_world (fun W => W.ownsRow B 5 1 (.slice (some ⟨B, 0, none⟩) 1 1) 1 (bv [d % 256]) ∧ Below A w W ∧ B ≤ W.heap.size) ⟨?_, by rw [hA]; exact more (more (Below.refl _ _) _) _, by rw [hB, hA]; simp⟩ ?_
  · have h := ownsRow_one (w.alloc (.cells #[.int .i64 d, .int .u32 e, .int .u32 s] 118)) (d % 256)
    have e1 : (w.alloc (.cells #[.int .i64 d, .int .u32 e, .int .u32 s] 118)).heap.size = B := by rw [hB, hA]; simp
    rw [e1] at h
    exact h
  rw [← hB]
  clear hA hB
  rintro W ⟨h1, h2, h3⟩
  have G1 := Kp.mk h1
  have G2 := Kp.mk h2
  have G3 := Kp.mk h3
  clear h1 h2 h3
  go_loopw [5, 17] (fun s5 c wr => ∃ (i N : Nat) (a5 : Option Addr) (c5 : Nat), i ≤ 2 ∧ c = .int .i64 i ∧ s5 = .slice a5 N c5 ∧ Kp (N = 1 + 4 * i) ∧ wr.ownsRow B 5 1 (.slice a5 N c5) N (bv (plS d e s i)) ∧ Below A w wr ∧ B ≤ wr.heap.size) (fun _ c _ => 2 - (intOf c).toNat)
  case atStart => exact ⟨0, 1, _, _, by omega, rfl, rfl, ⟨rfl⟩, G1.out, G2.out, G3.out⟩
  case round =>
    obtain ⟨i, N, a5, c5, hi, rfl, rfl, HNN, h1, h2, h3⟩ := hrel
    clear G1 G2 G3
    have G1 := Kp.mk h1
    have G2 := Kp.mk h2
    have G3 := Kp.mk h3
    clear h1 h2 h3
    have HAB : Kp (A ≤ B) := ⟨by have := HB.out; omega⟩
    have hNb : N ≤ 9 := by have := HNN.out; omega
    by_cases hlt : i < 2
    · obtain ⟨x, hx⟩ : ∃ x, x = if i = 0 then e else s := ⟨_, rfl⟩
      have hidx : ∀ w, (Instr.index 166 (.agg #[.int .u32 e, .int .u32 s]) (.int .i64 i)).run Tryd.prog w = .ok (.int .u32 x) w := by
        intro w
        rcases (show i = 0 ∨ i = 1 by omega) with rfl | rfl
        · rw [hx]; kernel_rfl
        · rw [hx]; kernel_rfl
      have x0 : 0 ≤ x := by rw [hx]; split <;> assumption
      have x1 : x < 4294967296 := by rw [hx]; split <;> assumption
      have HST : Kp (plS d e s (i + 1) = plS d e s i ++ be32 x) := ⟨by
        rcases (show i = 0 ∨ i = 1 by omega) with rfl | rfl
        · rw [hx]; rfl
        · rw [hx]; rfl⟩
      clear hx
      go_wp2_with (at_builtin; refine wpList_append_holds rfl _ _ rfl B _ _ _ rfl (G1.out.alloc _) _ _ (be32 x) rfl (four_holds wr x x0 x1) ?d0 ?d1 ?_)
      case d0 => rw [be32_len]; omega
      case d1 => have := G3.out; simp; omega
      intro v2 w2 ho hg
      have hbel : Below B wr w2 := below_row_grown ((Below.refl _ _).alloc G3.out _) (by have := G3.out; simp; omega) (G1.out.alloc _) hg
      obtain ⟨L2, hL2⟩ : ∃ L2, L2 = N + 4 := ⟨_, rfl⟩
      have ho2 : w2.ownsRow B 5 1 v2 L2 (bv (plS d e s (i + 1))) := by
        rw [HST.out, hL2]
        rw [be32_len] at ho
        simpa using ho
      obtain ⟨a2, c2, rfl⟩ := row_slice ho2
      have HO2 := Kp.mk ho2
      have HL2 : Kp (L2 = 1 + 4 * (i + 1)) := ⟨by have := HNN.out; omega⟩
      have HG4 : Kp (Below A w w2 ∧ B ≤ w2.heap.size) := ⟨G2.out.trans (hbel.mono HAB.out), Nat.le_trans G3.out hbel.size⟩
      clear ho hg hbel ho2 hL2 hidx
      go_wp2_with fail
      exact ⟨⟨i + 1, L2, a2, c2, by omega, by go_num, rfl, HL2, HO2.out, HG4.out.1, HG4.out.2⟩, by simp [intOf]; omega⟩
    · have hge : 2 ≤ (i : Int) := by omega
      have HI : Kp (i = 2) := ⟨by omega⟩
      clear hlt hi
      go_wp2_with (at_builtin; refine wpList_append_holds rfl _ _ rfl B _ _ _ rfl (G1.out.alloc _) _ _ [r % 256] rfl (one_holds wr _ (by omega)) ?d0 ?d1 ?_)
      case d0 => simp; omega
      case d1 => have := G3.out; simp; omega
      intro v2 w2 ho hg
      have hbel : Below B wr w2 := below_row_grown ((Below.refl _ _).alloc G3.out _) (by have := G3.out; simp; omega) (G1.out.alloc _) hg
      have HO : Kp (HoldsB w2 w2.heap.size v2 (placeL d e s r)) := ⟨HoldsB.ofRow (plS_bytes d e s r) (by
        have h := HNN.out
        rw [HI.out] at ho h
        subst h
        exact ho)⟩
      have HG4 : Kp (Below A w w2) := ⟨G2.out.trans (hbel.mono HAB.out)⟩
      clear ho hg hbel
      go_wp2_with fail
      go_ret
      exact ⟨_, rfl, HO.out, by rw [← HA.out]; exact HG4.out⟩
end Go.Proofs.YtibbinenhmiclaaDoor

namespace Go.Proofs.YtibbinenhmiclaaDoor
open Go.RowKit

theorem size32 {l : List Int} (h : l.length = 32) : (kv .u8 (fill 32 [])).toArray.size = (kv .u8 l).toArray.size := by rw [kv_size, kv_size, h]; rfl
set_option maxRecDepth 100000 in
theorem slice24_all (b : Nat) (w : World) : (Instr.sliceAt 24 (.pointer (some ⟨b, 0, none⟩)) none none none).run Tryd.prog w = .ok (.slice (some ⟨b, 0, none⟩) 32 32) w := by
  have hl : Tryd.prog.arrayLen 24 = 32 := by kernel_rfl
  have he : Tryd.prog.elem 24 = 5 := by kernel_rfl
  rw [run_sliceAt_array_all (ht := Tryd.underlying24), hl, he, size5]
  rfl
end Go.Proofs.YtibbinenhmiclaaDoor

namespace Go.Proofs.YtibbinenhmiclaaDoor
open Go.RowKit

/-- How many blocks a tag takes. -/
def costI (k n : Int) : Int := (if 64 < k then blkI k else 0) + blkI n + 3
theorem blkI_bound (n : Int) (h0 : 0 ≤ n) (h : n ≤ 1000000) : 1 ≤ blkI n ∧ blkI n ≤ 20000 := by
  unfold blkI
  rw [if_neg (by omega)]
  split <;> omega
end Go.Proofs.YtibbinenhmiclaaDoor

namespace Go.Proofs.YtibbinenhmiclaaDoor
open Go.RowKit

/-- The example's key and message. -/
def jefe : List Int := [74, 101, 102, 101]
def want : List Int := [119, 104, 97, 116, 32, 100, 111, 32, 121, 97, 32, 119, 97, 110, 116, 32, 102, 111, 114, 32, 110, 111, 116, 104, 105, 110, 103, 63]
end Go.Proofs.YtibbinenhmiclaaDoor

namespace Go.Proofs.YtibbinenhmiclaaDoor
open Go.RowKit

set_option maxRecDepth 100000 in
theorem slice25_four (b : Nat) (w : World) : (Instr.sliceAt 70 (.pointer (some ⟨b, 0, none⟩)) none (some (.int .i64 4)) none).run Tryd.prog w = .ok (.slice (some ⟨b, 0, none⟩) 4 32) w := by
  have hl : Tryd.prog.arrayLen 70 = 32 := by kernel_rfl
  have he : Tryd.prog.elem 70 = 5 := by kernel_rfl
  rw [run_sliceAt_array_h (ht := Tryd.underlying70) (h0 := by omega) (h2 := by rw [hl]; omega), hl, he, size5]
  rfl
end Go.Proofs.YtibbinenhmiclaaDoor

namespace Go.Proofs.YtibbinenhmiclaaDoor
open Go.RowKit

theorem bv_cells {p : List Int} (h : Bytes p) : (p.map fun n => UInt8.ofNat n.toNat).map Extern.Stop.cell = kv .u8 p := by
  rw [List.map_map]
  refine List.map_congr_left fun x hx => ?_
  have := h x hx
  obtain ⟨m, rfl⟩ : ∃ m : Nat, x = m := ⟨x.toNat, by omega⟩
  simp only [Function.comp_def, Extern.Stop.cell, Int.toNat_natCast, UInt8.toNat_ofNat']
  congr 1
  have hm : m % 2 ^ 8 = m := Nat.mod_eq_of_lt (by omega)
  rw [hm]
  rfl
theorem eqIn25 {p : List Int} (hb : Bytes p) (h : p.length = 32) (w : World) : (Op.equalIn 10000 70 (.agg (kv .u8 p).toArray) (.agg (kv .u8 p).toArray)).run Tryd.prog w = .ok true w := by
  have := run_equalIn_bytes (P := Tryd.prog) w 9998 70 5 32 Tryd.underlying70 Tryd.underlying5 size5 (p.map fun n => UInt8.ofNat n.toNat) (p.map fun n => UInt8.ofNat n.toNat) (by simp [h]) (by simp [h])
  rw [bv_cells hb] at this
  simpa using this
/-- A sum, as a value. -/
abbrev dgV (p : List Int) : Value := .agg (kv .u8 p).toArray
theorem eql25 {p : List Int} (hb : Bytes p) (h : p.length = 32) (w : World) : (binOp .eql 70 (dgV p) (dgV p)).run Tryd.prog w = .ok (.bool true) w := by
  rw [run_eql_struct, eqIn25 hb h]; rfl
theorem neq25 {p : List Int} (hb : Bytes p) (h : p.length = 32) (w : World) : (binOp .neq 70 (dgV p) (dgV p)).run Tryd.prog w = .ok (.bool false) w := by
  rw [run_neq_struct, eqIn25 hb h]; rfl
theorem eqg25 (p q : List Int) (x y : Operand) (w : World) : (eqGuard .eql 70 x y (dgV p) (dgV q)).run Tryd.prog w = .ok () w := by kernel_rfl
theorem neg25 (p q : List Int) (x y : Operand) (w : World) : (eqGuard .neq 70 x y (dgV p) (dgV q)).run Tryd.prog w = .ok () w := by kernel_rfl
end Go.Proofs.YtibbinenhmiclaaDoor

namespace Go.Proofs.YtibbinenhmiclaaDoor
open Go.RowKit

theorem eqIn50 {p : List Int} (hb : Bytes p) (h : p.length = 16) (w : World) : (Op.equalIn 10000 43 (.agg (kv .u8 p).toArray) (.agg (kv .u8 p).toArray)).run Tryd.prog w = .ok true w := by
  have := run_equalIn_bytes (P := Tryd.prog) w 9998 43 5 16 Tryd.underlying43 Tryd.underlying5 size5 (p.map fun n => UInt8.ofNat n.toNat) (p.map fun n => UInt8.ofNat n.toNat) (by simp [h]) (by simp [h])
  rw [bv_cells hb] at this
  simpa using this
theorem eql50 {p : List Int} (hb : Bytes p) (h : p.length = 16) (w : World) : (binOp .eql 43 (dgV p) (dgV p)).run Tryd.prog w = .ok (.bool true) w := by
  rw [run_eql_struct, eqIn50 hb h]; rfl
theorem eqg50 (p q : List Int) (x y : Operand) (w : World) : (eqGuard .eql 43 x y (dgV p) (dgV q)).run Tryd.prog w = .ok () w := by kernel_rfl
end Go.Proofs.YtibbinenhmiclaaDoor

namespace Go.Proofs.YtibbinenhmiclaaDoor
open Go.RowKit

/-- A literal of one row of bytes. -/
theorem holds_one {w : World} {M : Nat} {a : Option Addr} {n c : Nat} {l : List Int} (h : HoldsB w M (.slice a n c) l) (hM : M ≤ w.heap.size) :
    HoldsP (w.alloc (.cells #[.slice a n c] 131)) (.slice (some ⟨w.heap.size, 0, none⟩) 1 1) [l] := by
  refine ⟨_, 1, rfl, by unfold maxLen; simp, fun i hi => ?_⟩
  have h0 : i = 0 := by simpa using hi
  subst h0
  refine ⟨w.heap.size, 0, a, n, c, rfl, by simp, ?_, ?_⟩
  · exact (Blk.new w (.cells #[.slice a n c] 131)).cell 0
  · have h2 := (h.mono hM).alloc (.cells #[.slice a n c] 131)
    exact h2.mono (by simp)
theorem eq33 (t : List Int) (w : World) : (binOp .eql 43 (dgV (shortL t)) (dgV (shortL t))).run Tryd.prog w = .ok (.bool true) w := eql50 (shortL_bytes t) (shortL_len t) w
end Go.Proofs.YtibbinenhmiclaaDoor

namespace Go.Proofs.YtibbinenhmiclaaDoor
open Go.RowKit

theorem holdsP_three {w : World} {v1 v2 v3 : Value} {l1 l2 l3 : List Int} (h1 : HoldsB w w.heap.size v1 l1) (h2 : HoldsB w w.heap.size v2 l2) (h3 : HoldsB w w.heap.size v3 l3) :
    HoldsP (w.alloc (.cells #[v1, v2, v3] 131)) (.slice (some ⟨w.heap.size, 0, none⟩) 3 3) [l1, l2, l3] := by
  have hB := Blk.new w (.cells #[v1, v2, v3] 131)
  have hm : ∀ v l, HoldsB w w.heap.size v l → HoldsB (w.alloc (.cells #[v1, v2, v3] 131)) (w.alloc (.cells #[v1, v2, v3] 131)).heap.size v l := fun v l h => (h.alloc _).mono (by simp)
  refine ⟨_, 3, rfl, by unfold maxLen; simp, fun i hi => ?_⟩
  match i, hi with
  | 0, _ =>
    obtain ⟨a, n, c, rfl, _⟩ := h1.slice
    exact ⟨w.heap.size, 0, a, n, c, rfl, by simp, hB.cell 0, hm _ _ h1⟩
  | 1, _ =>
    obtain ⟨a, n, c, rfl, _⟩ := h2.slice
    exact ⟨w.heap.size, 0, a, n, c, rfl, by simp, hB.cell 1, hm _ _ h2⟩
  | 2, _ =>
    obtain ⟨a, n, c, rfl, _⟩ := h3.slice
    exact ⟨w.heap.size, 0, a, n, c, rfl, by simp, hB.cell 2, hm _ _ h3⟩
  | i + 3, hi => exact absurd hi (by simp)
/-- The texts of a leaf, of what stands above two. -/
def leafT (d e s r : Int) (el : List Int) (id : Int) : List Int := 76 :: (placeL d e s r ++ el ++ [id % 256])
def joinT (d e s r : Int) (x y : List Int) : List Int := 74 :: (placeL d e s r ++ x ++ y)
theorem leafT_flat (d e s r : Int) (el : List Int) (id : Int) : 76 :: [placeL d e s r, el, [id % 256]].flatten = leafT d e s r el id := by simp [leafT]
theorem joinT_flat (d e s r : Int) (x y : List Int) : 74 :: [placeL d e s r, x, y].flatten = joinT d e s r x y := by simp [joinT]
theorem hold16 {w : World} {b : Nat} {t : TypeId} {l : List Int} (h : Row w b t .u8 l) (hl : l.length = 16) (hb : Bytes l) : HoldsB w w.heap.size (.slice (some ⟨b, 0, none⟩) 16 16) l := by
  have h2 := HoldsB.ofBytes h hb (by rw [hl]; decide)
  rw [hl] at h2
  exact h2
theorem cells51 (d e s : Int) : (Tryd.prog.info? 118).map (·.size) = some (#[Value.int .i64 d, .int .u32 e, .int .u32 s]).size := by kernel_rfl
set_option maxRecDepth 100000 in
set_option maxHeartbeats 1000000 in
theorem join_any (d e s r : Int) (x y : List Int) (w : World) (hk : KonIs w) (he : 0 ≤ e ∧ e < 4294967296) (hs : 0 ≤ s ∧ s < 4294967296) (hx : x.length = 16) (hxb : Bytes x) (hy : y.length = 16) (hyb : Bytes y) :
    Calls Tryd.prog 96 #[plV d e s, .int .i64 r, dgV x, dgV y] w fun q w' => q = .returned (dgV (shortL (joinT d e s r x y))) ∧ Below w.heap.size w w' := by
  have HK := Kp.mk hk
  have HE := Kp.mk he
  have HS := Kp.mk hs
  have HX := Kp.mk hx
  have HXB := Kp.mk hxb
  have HY := Kp.mk hy
  have HYB := Kp.mk hyb
  clear hk he hs hx hxb hy hyb
  go_enter Tryd.func96, Tryd.ntmps96
  go_wp2_with fail
  obtain ⟨A, hA⟩ : ∃ A, A = w.heap.size := ⟨_, rfl⟩
  have HA := Kp.mk hA
  rw [← hA]
  refine wp_world (fun W => Blk W A (.cells #[.int .i64 d, .int .u32 e, .int .u32 s] 118) ∧ Row W (A + 1) 43 .u8 x ∧ Row W (A + 2) 43 .u8 y ∧ Row W (A + 3) 43 .u8 (fill 16 []) ∧ Below A w W) ⟨?_, ?_, ?_, ?_, ?_⟩ ?_
  · exact Blk.old (Blk.old (Blk.old (Blk.newAt _ hA) _) _) _
  · exact Blk.old (Blk.old (Blk.newAt _ (by simp [hA])) _) _
  · exact Blk.old (Blk.newAt _ (by simp [hA])) _
  · exact Blk.newAt _ (by simp [hA])
  · rw [hA]; exact more (more (more (more (Below.refl _ _) _) _) _) _
  rw [show A + 1 + 1 = A + 2 from rfl, show A + 2 + 1 = A + 3 from rfl]
  clear hA
  rintro W ⟨h1, h2, h3, h4, h5⟩
  refine wp_region_pred (fun w' => Blk w' A (.cells #[.int .i64 d, .int .u32 e, .int .u32 s] 118) ∧ Row w' (A + 1) 43 .u8 x ∧ Row w' (A + 2) 43 .u8 y ∧ Row w' (A + 3) 43 .u8 (fill 16 []) ∧ Below A w w') [0, 1, 2, 3, 4, 5, 6] [7]
    (fun i w' v => match i with
      | 0 => v = plV d e s
      | 1 => v = .int .i64 r
      | 2 => HoldsB w' w'.heap.size v (placeL d e s r)
      | 3 => v = .slice (some ⟨A + 1, 0, none⟩) 16 16
      | 4 => v = .slice (some ⟨A + 2, 0, none⟩) 16 16
      | 5 => HoldsP w' v [placeL d e s r, x, y]
      | _ => v = dgV (shortL (joinT d e s r x y)))
    [[], [], [(0, some 9), (1, some 10)], [], [], [(2, some 11), (3, some 12), (4, some 13)], [(2, some 11), (5, some 14)]] [(0, some 9), (1, some 10), (2, some 11), (3, some 12), (4, some 13), (5, some 14), (6, some 15)]
    (by kernel_rfl) (by kernel_rfl) (by kernel_rfl) (by kernel_rfl) (by kernel_rfl) (by kernel_rfl) (by decide) (by decide) (fun w1 w2 h hb => ⟨h.1.keep hb, h.2.1.keep hb, h.2.2.1.keep hb, h.2.2.2.1.keep hb, h.2.2.2.2.trans (hb.mono (Nat.le_of_lt h.1.lt))⟩) ?_ ⟨h1.draw, h2.drew, h3.drew, h4.drew, h5.drew⟩ ?_ ?_
  · intro i w1 w2 v h hb
    match i, h with
    | 0, h => exact h
    | 1, h => exact h
    | 2, h => exact (HoldsB.keep h hb).mono hb.size
    | 3, h => exact h
    | 4, h => exact h
    | 5, h => exact HoldsP.keep h hb
    | _ + 6, h => exact h
  · refine ⟨fun γ wx hS h => ⟨_, rfl, Or.inl ⟨rfl, ?_⟩⟩, fun γ wx hS h => ⟨_, rfl, Or.inl ⟨rfl, ?_⟩⟩, fun γ wx hS h => ⟨_, rfl, Or.inl ⟨rfl, ?_⟩⟩, fun γ wx hS h => ⟨_, rfl, Or.inl ⟨rfl, ?_⟩⟩, fun γ wx hS h => ⟨_, rfl, Or.inl ⟨rfl, ?_⟩⟩, fun γ wx hS h => ⟨_, rfl, Or.inl ⟨rfl, ?_⟩⟩, fun γ wx hS h => ⟨_, rfl, Or.inl ⟨rfl, ?_⟩⟩, trivial⟩
    · exact predRun_value (exec_load_blk 118 (.tmp 4) rfl A rfl 118 _ (0, 0) _ hS.1 Tryd.underlying118 rfl (cells51 d e s)) rfl
    · exact predRun_value rfl rfl
    · obtain ⟨h0, h1⟩ := h
      refine predRun_call (f := 95) (args := #[γ 0, γ 1]) (by simp only [putE]; go_simp) ?_
      rw [show γ 0 = plV d e s from h0, show γ 1 = .int .i64 r from h1]
      exact withRung_any d e s r wx HE.out HS.out
    · exact predRun_value (v := .slice (some ⟨A + 1, 0, none⟩) 16 16) (by simp only [putE]; have hs := slice50_all; go_simp) rfl
    · exact predRun_value (v := .slice (some ⟨A + 2, 0, none⟩) 16 16) (by simp only [putE]; have hs := slice50_all; go_simp) rfl
    · obtain ⟨h2, h3, h4⟩ := h
      have h3' : γ 3 = .slice (some ⟨A + 1, 0, none⟩) 16 16 := h3
      have h4' : γ 4 = .slice (some ⟨A + 2, 0, none⟩) 16 16 := h4
      have h2' : HoldsB wx wx.heap.size (γ 2) (placeL d e s r) := h2
      obtain ⟨a, n, c, e2, _⟩ := h2'.slice
      rw [e2] at h2'
      refine predRun_new (w' := wx.alloc (.cells #[.slice a n c, .slice (some ⟨A + 1, 0, none⟩) 16 16, .slice (some ⟨A + 2, 0, none⟩) 16 16] 131)) (v := .slice (some ⟨wx.heap.size, 0, none⟩) 3 3) (by simp only [putE, e2, h3', h4']; go_simp) (more (Below.refl _ _) _) ?_
      exact holdsP_three h2' (hold16 hS.2.1 HX.out HXB.out) (hold16 hS.2.2.1 HY.out HYB.out)
    · obtain ⟨_, h5⟩ := h
      have h5' : HoldsP wx (γ 5) [placeL d e s r, x, y] := h5
      obtain ⟨a, n, c, e5, _⟩ := h5'.slice
      rw [e5] at h5'
      refine predRun_call (f := 76) (args := #[.int .u8 74, γ 5]) (by simp only [putE]; go_simp) ?_
      rw [e5]
      refine (short_any 74 a n c _ wx (HK.out.keep (by rw [← HA.out]; exact hS.2.2.2.2)) (by omega) h5' (by simp [placeL_len, HX.out, HY.out])).mono ?_
      rintro q w2 ⟨rfl, hb⟩
      exact ⟨_, rfl, congrArg (fun t => dgV (shortL t)) (joinT_flat d e s r x y), hb⟩
  · intro γ w9 hS h
    have h6 : γ 6 = dgV (shortL (joinT d e s r x y)) := h.2.2.2.2.2.2
    obtain ⟨z, hz⟩ : ∃ z, z = shortL (joinT d e s r x y) := ⟨_, rfl⟩
    have HD := Kp.mk (shortL_len (joinT d e s r x y))
    rw [← hz] at h6 HD
    have HC := Kp.mk (cells50 HD.out)
    have HZ := Kp.mk (size50 HD.out)
    have HF := Kp.mk (hS.2.2.2.1.setRow z)
    have HBf := Kp.mk (Below.row hS.2.2.2.2 (g := A + 3) (by omega) (kv .u8 z).toArray)
    simp only [putE, Act.put, List.setIfInBounds_toArray, List.set_cons_zero, List.set_cons_succ]
    rw [h6]
    refine wpOps_step rfl rfl ?_
    refine wp_store_row 43 (.tmp 8) (.tmp 15) rfl (A + 3) (kv .u8 z).toArray rfl rfl 43 _ hS.2.2.2.1 HC.out HZ.out (kv_all _ _) ?_
    refine wpOps_done ?_
    have HK9 := Kp.mk hz
    clear h hS h6 hz
    go_wp2_with fail
    refine bodyPost_ret (v := dgV z) ?_ rfl ⟨by rw [HK9.out], by rw [← HA.out]; exact HBf.out⟩
    exact results_cell_row rfl _ _ (A + 3) 43 _ (0, 0) _ rfl HF.out Tryd.underlying43 rfl HC.out
end Go.Proofs.YtibbinenhmiclaaDoor

namespace Go.Proofs.YtibbinenhmiclaaDoor
open Go.RowKit

set_option maxRecDepth 100000 in
theorem slice32_all (b : Nat) (w : World) : (Instr.sliceAt 42 (.pointer (some ⟨b, 0, none⟩)) none none none).run Tryd.prog w = .ok (.slice (some ⟨b, 0, none⟩) 16 16) w := by
  have hl : Tryd.prog.arrayLen 42 = 16 := by kernel_rfl
  have he : Tryd.prog.elem 42 = 5 := by kernel_rfl
  rw [run_sliceAt_array_all (ht := Tryd.underlying42), hl, he, size5]
  rfl
theorem wp_assign_end {P : Program} {o : Oper} {a : Act} {w : World} {K : Act → World → Prop} {Q : Exit → Act → World → Prop} {x : Operand} {v : Value} (ho : o.op = .assign x) (hx : a.eval x = v) (h : K (a.put o.dst v) w) : o.wp P a w K Q := by
  unfold Oper.wp execOp
  simp only [ho, hx, Sem.run_pure]
  exact h

end Go.Proofs.YtibbinenhmiclaaDoor

namespace Go.Proofs.YtibbinenhmiclaaDoor
open Go.RowKit

theorem holdsB_tail {w : World} {M : Nat} {v : Value} {k : Int} {l : List Int} (h : HoldsB w M v (k :: l)) :
    ∃ v', (∀ w1, (Instr.sliceAt 131 v (some (.int .i64 1)) none none).run Tryd.prog w1 = .ok v' w1) ∧ HoldsB w M v' l := by
  obtain ⟨v', h1, h2⟩ := h.back (k := 1) (by simp)
  exact ⟨v', h1, h2⟩
end Go.Proofs.YtibbinenhmiclaaDoor

namespace Go.Proofs.YtibbinenhmiclaaDoor
open Go.RowKit

set_option maxRecDepth 100000 in
set_option maxHeartbeats 1000000 in
theorem leaf_any (d e s r : Int) (x : List Int) (id : Int) (w : World) (hk : KonIs w) (he : 0 ≤ e ∧ e < 4294967296) (hs : 0 ≤ s ∧ s < 4294967296) (hx : x.length = 16) (hxb : Bytes x) :
    Calls Tryd.prog 79 #[plV d e s, .int .i64 r, dgV x, .int .i64 id] w fun q w' => q = .returned (dgV (shortL (leafT d e s r x id))) ∧ Below w.heap.size w w' := by
  have HK := Kp.mk hk
  have HE := Kp.mk he
  have HS := Kp.mk hs
  have HX := Kp.mk hx
  have HXB := Kp.mk hxb
  clear hk he hs hx hxb
  go_enter Tryd.func79, Tryd.ntmps79
  go_wp2_with fail
  obtain ⟨A, hA⟩ : ∃ A, A = w.heap.size := ⟨_, rfl⟩
  have HA := Kp.mk hA
  rw [← hA]
  refine wp_world (fun W => Blk W A (.cells #[.int .i64 d, .int .u32 e, .int .u32 s] 118) ∧ Row W (A + 1) 43 .u8 x ∧ Row W (A + 2) 43 .u8 (fill 16 []) ∧ Below A w W) ⟨?_, ?_, ?_, ?_⟩ ?_
  · exact Blk.old (Blk.old (Blk.newAt _ hA) _) _
  · exact Blk.old (Blk.newAt _ (by simp [hA])) _
  · exact Blk.newAt _ (by simp [hA])
  · rw [hA]; exact more (more (more (Below.refl _ _) _) _) _
  rw [show A + 1 + 1 = A + 2 from rfl]
  clear hA
  rintro W ⟨h1, h2, h4, h5⟩
  refine wp_region_pred (fun w' => Blk w' A (.cells #[.int .i64 d, .int .u32 e, .int .u32 s] 118) ∧ Row w' (A + 1) 43 .u8 x ∧ Row w' (A + 2) 43 .u8 (fill 16 []) ∧ Below A w w') [0, 1, 2, 3, 4, 5, 6, 7, 8] [9]
    (fun i w' v => match i with
      | 0 => v = plV d e s
      | 1 => v = .int .i64 r
      | 2 => HoldsB w' w'.heap.size v (placeL d e s r)
      | 3 => v = .slice (some ⟨A + 1, 0, none⟩) 16 16
      | 4 => v = .int .i64 id
      | 5 => v = .int .u8 (id % 256)
      | 6 => HoldsB w' w'.heap.size v [id % 256]
      | 7 => HoldsP w' v [placeL d e s r, x, [id % 256]]
      | _ => v = dgV (shortL (leafT d e s r x id)))
    [[], [], [(0, some 9), (1, some 10)], [], [], [(4, some 13)], [(5, some 14)], [(2, some 11), (3, some 12), (6, some 15)], [(2, some 11), (7, some 16)]] [(0, some 9), (1, some 10), (2, some 11), (3, some 12), (4, some 13), (5, some 14), (6, some 15), (7, some 16), (8, some 17)]
    (by kernel_rfl) (by kernel_rfl) (by kernel_rfl) (by kernel_rfl) (by kernel_rfl) (by kernel_rfl) (by decide) (by decide) (fun w1 w2 h hb => ⟨h.1.keep hb, h.2.1.keep hb, h.2.2.1.keep hb, h.2.2.2.trans (hb.mono (Nat.le_of_lt h.1.lt))⟩) ?_ ⟨h1.draw, h2.drew, h4.drew, h5.drew⟩ ?_ ?_
  · intro i w1 w2 v h hb
    match i, h with
    | 0, h => exact h
    | 1, h => exact h
    | 2, h => exact (HoldsB.keep h hb).mono hb.size
    | 3, h => exact h
    | 4, h => exact h
    | 5, h => exact h
    | 6, h => exact (HoldsB.keep h hb).mono hb.size
    | 7, h => exact HoldsP.keep h hb
    | _ + 8, h => exact h
  · refine ⟨fun γ wx hS h => ⟨_, rfl, Or.inl ⟨rfl, ?_⟩⟩, fun γ wx hS h => ⟨_, rfl, Or.inl ⟨rfl, ?_⟩⟩, fun γ wx hS h => ⟨_, rfl, Or.inl ⟨rfl, ?_⟩⟩, fun γ wx hS h => ⟨_, rfl, Or.inl ⟨rfl, ?_⟩⟩, fun γ wx hS h => ⟨_, rfl, Or.inl ⟨rfl, ?_⟩⟩, fun γ wx hS h => ⟨_, rfl, Or.inl ⟨rfl, ?_⟩⟩, fun γ wx hS h => ⟨_, rfl, Or.inl ⟨rfl, ?_⟩⟩, fun γ wx hS h => ⟨_, rfl, Or.inl ⟨rfl, ?_⟩⟩, fun γ wx hS h => ⟨_, rfl, Or.inl ⟨rfl, ?_⟩⟩, trivial⟩
    · exact predRun_value (exec_load_blk 118 (.tmp 4) rfl A rfl 118 _ (0, 0) _ hS.1 Tryd.underlying118 rfl (cells51 d e s)) rfl
    · exact predRun_value rfl rfl
    · obtain ⟨h0, h1⟩ := h
      refine predRun_call (f := 95) (args := #[γ 0, γ 1]) (by simp only [putE]; go_simp) ?_
      rw [show γ 0 = plV d e s from h0, show γ 1 = .int .i64 r from h1]
      exact withRung_any d e s r wx HE.out HS.out
    · exact predRun_value (v := .slice (some ⟨A + 1, 0, none⟩) 16 16) (by simp only [putE]; have hs := slice50_all; go_simp) rfl
    · exact predRun_value rfl rfl
    · have h4' : γ 4 = .int .i64 id := h
      exact predRun_value (v := .int .u8 (id % 256)) (by simp only [putE, h4']; go_simp; exact IntKind.wrap_u8' _) rfl
    · have h5' : γ 5 = .int .u8 (id % 256) := h
      exact predRun_new (w' := wx.alloc (.cells #[.int .u8 (id % 256)] 5)) (v := .slice (some ⟨wx.heap.size, 0, none⟩) 1 1) (by simp only [putE, h5']; go_simp) (more (Below.refl _ _) _) (one_holds wx _ (by omega))
    · obtain ⟨h2, h3, h6⟩ := h
      have h3' : γ 3 = .slice (some ⟨A + 1, 0, none⟩) 16 16 := h3
      have h2' : HoldsB wx wx.heap.size (γ 2) (placeL d e s r) := h2
      have h6' : HoldsB wx wx.heap.size (γ 6) [id % 256] := h6
      obtain ⟨a, n, c, e2, _⟩ := h2'.slice
      rw [e2] at h2'
      obtain ⟨a6, n6, c6, e6, _⟩ := h6'.slice
      rw [e6] at h6'
      refine predRun_new (w' := wx.alloc (.cells #[.slice a n c, .slice (some ⟨A + 1, 0, none⟩) 16 16, .slice a6 n6 c6] 131)) (v := .slice (some ⟨wx.heap.size, 0, none⟩) 3 3) (by simp only [putE, e2, h3', e6]; go_simp) (more (Below.refl _ _) _) ?_
      exact holdsP_three h2' (hold16 hS.2.1 HX.out HXB.out) h6'
    · obtain ⟨_, h7⟩ := h
      have h7' : HoldsP wx (γ 7) [placeL d e s r, x, [id % 256]] := h7
      obtain ⟨a, n, c, e7, _⟩ := h7'.slice
      rw [e7] at h7'
      refine predRun_call (f := 76) (args := #[.int .u8 76, γ 7]) (by simp only [putE]; go_simp) ?_
      rw [e7]
      refine (short_any 76 a n c _ wx (HK.out.keep (by rw [← HA.out]; exact hS.2.2.2)) (by omega) h7' (by simp [placeL_len, HX.out])).mono ?_
      rintro q w2 ⟨rfl, hb⟩
      exact ⟨_, rfl, congrArg (fun t => dgV (shortL t)) (leafT_flat d e s r x id), hb⟩
  · intro γ w9 hS h
    have h8 : γ 8 = dgV (shortL (leafT d e s r x id)) := h.2.2.2.2.2.2.2.2
    obtain ⟨z, hz⟩ : ∃ z, z = shortL (leafT d e s r x id) := ⟨_, rfl⟩
    have HD := Kp.mk (shortL_len (leafT d e s r x id))
    rw [← hz] at h8 HD
    have HC := Kp.mk (cells50 HD.out)
    have HZ := Kp.mk (size50 HD.out)
    have HF := Kp.mk (hS.2.2.1.setRow z)
    have HBf := Kp.mk (Below.row hS.2.2.2 (g := A + 2) (by omega) (kv .u8 z).toArray)
    simp only [putE, Act.put, List.setIfInBounds_toArray, List.set_cons_zero, List.set_cons_succ]
    rw [h8]
    refine wpOps_step rfl rfl ?_
    refine wp_store_row 43 (.tmp 8) (.tmp 17) rfl (A + 2) (kv .u8 z).toArray rfl rfl 43 _ hS.2.2.1 HC.out HZ.out (kv_all _ _) ?_
    refine wpOps_done ?_
    have HK9 := Kp.mk hz
    clear h hS h8 hz
    go_wp2_with fail
    refine bodyPost_ret (v := dgV z) ?_ rfl ⟨by rw [HK9.out], by rw [← HA.out]; exact HBf.out⟩
    exact results_cell_row rfl _ _ (A + 2) 43 _ (0, 0) _ rfl HF.out Tryd.underlying43 rfl HC.out
end Go.Proofs.YtibbinenhmiclaaDoor
