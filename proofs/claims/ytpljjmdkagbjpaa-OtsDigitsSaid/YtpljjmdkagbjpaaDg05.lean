/-
  A third law of this seat's own on regions that draw their order: of each operation it is known what its result is like (a condition that stays, whatever is made besides), not which value it is: so calls may hand back memory that they made, whose place hangs on the order. The end is walked one behind the other.
  The document's Of.
  Rows of texts: what the document's Node hands back.
  append, and in which block what comes of it lies; two rows that grow side by side.
  The document's Num: a number as four or eight bytes.
  ots.named.
  The document's Head of layer 10.
-/
import Derived.Test.YtpljjmdkagbjpaaDg04
import Derived.Laws.Rows
import Derived.ArgAppend
import Derived.OwnWalk
namespace Go.Proofs.Ytpljjmdkagbjpaa
open Go.RowKit

section
variable {P : Program} {ops : Array Oper} {Q : Exit → Act → World → Prop} {S : World → Prop}

/-- What a run, begun in world w, comes to: a value that meets V; all that was in memory is as it was. -/
def PredRun (P : Program) (w : World) (V : World → Value → Prop) : Result Next → Prop
  | .ok (.value u) w' => V w' u ∧ Below w.heap.size w w'
  | .ok (.enter f args) w' => w' = w ∧ Calls P f args w (fun e w'' => ∃ v, e = .returned v ∧ V w'' v ∧ Below w.heap.size w w'')
  | _ => False

def PredOp (P : Program) (ops : Array Oper) (o : Oper) (V : World → Value → Prop) (a : Act) (w : World) : Prop :=
  (Region.wanted o (yielded ops a.tmps) = true ∧ PredRun P w V ((execOp a.eval o).run P w)) ∨ (Region.wanted o (yielded ops a.tmps) = false ∧ V w undef)

theorem PredOp.of_same {o : Oper} {V : World → Value → Prop} {a a' : Act} {w : World} (hy : PredOp P ops o V a w) (he : execOp a'.eval o = execOp a.eval o)
    (hw : Region.wanted o (yielded ops a'.tmps) = Region.wanted o (yielded ops a.tmps)) : PredOp P ops o V a' w := by
  unfold PredOp at *
  rw [he, hw]
  exact hy

theorem PredOp.wpOp {i : Nat} {o : Oper} {V : World → Value → Prop} {a : Act} (hi : ops[i]? = some o) {K : Act → World → Prop} {w : World} (hy : PredOp P ops o V a w)
    (h : ∀ v w', V w' v → Below w.heap.size w w' → K (a.put o.dst v) w') : wpOp P ops Q i K a w := by
  unfold Go.wpOp
  simp only [hi]
  rcases hy with ⟨hw, hg⟩ | ⟨hw, hv⟩
  · simp only [hw, if_true, Oper.wp]
    generalize (execOp a.eval o).run P w = r at hg
    refine .inl ?_
    cases r with
    | ok n w' =>
      cases n with
      | value u => exact h _ _ hg.1 hg.2
      | enter f args =>
        obtain ⟨rfl, hg⟩ := hg
        refine Calls.mono hg fun e w'' he => ?_
        obtain ⟨v, rfl, hv, hb⟩ := he
        exact h _ _ hv hb
      | _ => exact hg.elim
    | halt x w' => exact hg.elim
  · simp only [hw, Bool.false_eq_true, if_false]
    exact h _ _ hv (Below.refl _ _)

/-- The values that have come, in their slots. -/
def putD (ops : Array Oper) (γ : Nat → Value) : List Nat → Act → Act
  | [], a => a
  | i :: r, a => putD ops γ r (a.put (dstOf ops i) (γ i))
theorem putD_append (γ : Nat → Value) : ∀ (l m : List Nat) (a : Act), putD ops γ (l ++ m) a = putD ops γ m (putD ops γ l a)
  | [], _, _ => rfl
  | i :: r, m, a => putD_append γ r m _
theorem putD_congr {γ γ' : Nat → Value} : ∀ (l : List Nat) (a : Act), (∀ i ∈ l, γ i = γ' i) → putD ops γ l a = putD ops γ' l a
  | [], _, _ => rfl
  | i :: r, a, h => by
    unfold putD
    rw [h i (by simp)]
    exact putD_congr r _ fun j hj => h j (List.mem_cons_of_mem _ hj)
theorem putD_perm (γ : Nat → Value) {l m : List Nat} (hp : l.Perm m) : (∀ x ∈ l, ∀ y ∈ l, x ≠ y → ∀ t, dstOf ops x = some t → dstOf ops y ≠ some t) → ∀ a : Act, putD ops γ l a = putD ops γ m a := by
  induction hp with
  | nil => exact fun _ _ => rfl
  | cons x _ ih => exact fun h a => ih (fun y hy z hz => h y (List.mem_cons_of_mem _ hy) z (List.mem_cons_of_mem _ hz)) _
  | swap x y l =>
    intro h a
    unfold putD
    unfold putD
    by_cases hxy : x = y
    · subst hxy; rfl
    · rw [put_same_apart (γ y) (γ x) (h y (by simp) x (by simp) (Ne.symm hxy))]
  | trans h1 _ ih1 ih2 => exact fun h a => (ih1 h a).trans (ih2 (fun x hx y hy => h x (h1.mem_iff.2 hx) y (h1.mem_iff.2 hy)) a)
theorem same_putD (γ : Nat → Value) (o : Oper) (hs : ∀ cs b, o.op ≠ .select cs b) : ∀ (l : List Nat) (a : Act), (∀ i ∈ l, ∀ t, dstOf ops i = some t → t ∉ o.looksAt ops) →
    execOp (putD ops γ l a).eval o = execOp a.eval o ∧ Region.wanted o (yielded ops (putD ops γ l a).tmps) = Region.wanted o (yielded ops a.tmps)
  | [], _, _ => ⟨rfl, rfl⟩
  | i :: r, a, h => by
    obtain ⟨h1, h2⟩ := same_putD γ o hs r (a.put (dstOf ops i) (γ i)) fun j hj => h j (List.mem_cons_of_mem _ hj)
    unfold putD
    exact ⟨h1.trans (execOp_put o hs a _ _ (h i (by simp))), h2.trans (wanted_put o a _ _ (h i (by simp)))⟩

/-- For which of vs number i waits. -/
def depsOf (ops : Array Oper) (vs : List Nat) (i : Nat) : List Nat := vs.filter fun x => match ops[i]? with | some o => o.after.any fun e => Region.binds .any e && e.on == x | none => false
theorem mem_depsOf {vs : List Nat} {i x : Nat} {o : Oper} (ho : ops[i]? = some o) : x ∈ depsOf ops vs i ↔ x ∈ vs ∧ ∃ e ∈ o.after, Region.binds .any e = true ∧ e.on = x := by
  unfold depsOf
  rw [List.mem_filter, ho]
  simp only [Array.any_eq_true', Bool.and_eq_true, beq_iff_eq]
/-- The slots that are written are different ones. -/
def dstsOk (ops : Array Oper) (vs : List Nat) : Bool := vs.all fun x => vs.all fun y => x == y || match dstOf ops x, dstOf ops y with | some s, some t => s != t | _, _ => true
theorem dstsOk_spec {vs : List Nat} (h : dstsOk ops vs = true) : ∀ x ∈ vs, ∀ y ∈ vs, x ≠ y → ∀ t, dstOf ops x = some t → dstOf ops y ≠ some t := by
  intro x hx y hy hne t ht ht2
  unfold dstsOk at h
  simp only [List.all_eq_true, Bool.or_eq_true, beq_iff_eq] at h
  rcases h x hx y hy with h | h
  · exact hne h
  · rw [ht, ht2] at h
    simp at h

theorem wpAny_pred (hmono : Stays S) (hs : ∀ (j : Nat) (o : Oper) cs b, ops[j]? = some o → o.op ≠ .select cs b) {vs bs : List Nat} (hok : partsOk ops vs [] bs = true) (hdst : dstsOk ops vs = true) (hbnd : bs.Nodup)
    {Φ : Nat → World → Value → Prop} (hΦ : ∀ i w w' v, Φ i w v → Below w.heap.size w w' → Φ i w' v) {a0 : Act}
    (need : ∀ i ∈ vs, ∀ (γ : Nat → Value) (w : World), S w → (∀ d ∈ depsOf ops vs i, Φ d w (γ d)) → ∃ o, ops[i]? = some o ∧ PredOp P ops o (Φ i) (putD ops γ (depsOf ops vs i) a0) w)
    (hD : ∀ (γ : Nat → Value) (w : World), S w → (∀ i ∈ vs, Φ i w (γ i)) → wpOps P ops Q bs (putD ops γ vs a0) w) :
    ∀ (fuel : Nat) (listed : Array Bool) (γ : Nat → Value) (L : List Nat) (w : World), listed.size = ops.size → L.Nodup → (∀ i ∈ L, i ∈ vs) → (∀ i ∈ vs, i ∈ L ↔ listed.getD i false = true) → (∀ i ∈ bs, listed.getD i false = false) →
      Closed ops listed → (vs.filter fun i => !L.contains i).length + bs.length ≤ fuel → S w → (∀ i ∈ L, Φ i w (γ i)) → wpAny P .any ops Q fuel listed (putD ops γ L a0) w := by
  obtain ⟨hall, hvs, _, hbs, hlt, _, hV, _, hB⟩ := partsOk_spec hok
  have hnd : vs.Nodup := hlt.imp fun h => by omega
  have hdd := dstsOk_spec hdst
  -- where all of vs have come up
  have hend : ∀ (fuel : Nat) (listed : Array Bool) (γ : Nat → Value) (L : List Nat) (w : World), listed.size = ops.size → L.Nodup → (∀ i ∈ L, i ∈ vs) → (∀ i ∈ vs, i ∈ L ↔ listed.getD i false = true) → (∀ i ∈ bs, listed.getD i false = false) →
      bs.length ≤ fuel → S w → (∀ i ∈ L, Φ i w (γ i)) → (∀ i ∈ vs, i ∈ L) → wpAny P .any ops Q fuel listed (putD ops γ L a0) w := by
    intro fuel listed γ L w hsz hLn hLv hl hbl hf hS hg hfull
    have hp : L.Perm vs := (List.perm_ext_iff_of_nodup hLn hnd).2 fun x => ⟨hLv x, hfull x⟩
    rw [putD_perm γ hp (fun x hx y hy => hdd x (hLv x hx) y (hLv y hy)) a0]
    refine wpAny_end hok bs 0 fuel listed _ w rfl hsz hf hbnd (fun i hi => ?_) (hD γ w hS fun i hi => hg i (hfull i hi))
    rcases hall i hi with h | h | h
    · exact ⟨fun _ hib => (hvs i h).2.2 hib, fun _ => (hl i h).1 (hfull i h)⟩
    · cases h
    · exact ⟨fun ht => (by rw [hbl i h] at ht; cases ht), fun hn => absurd h hn⟩
  intro fuel
  induction fuel with
  | zero =>
    intro listed γ L w hsz hLn hLv hl hbl _ hf hS hg
    have h0 : (vs.filter fun i => !L.contains i) = [] := List.length_eq_zero_iff.1 (by omega)
    refine hend 0 listed γ L w hsz hLn hLv hl hbl (by omega) hS hg fun i hi => ?_
    have := List.filter_eq_nil_iff.1 h0 i hi
    simpa using this
  | succ fuel ih =>
    intro listed γ L w hsz hLn hLv hl hbl hcl hf hS hg
    by_cases hfull : ∀ i ∈ vs, i ∈ L
    · exact hend _ listed γ L w hsz hLn hLv hl hbl (by omega) hS hg hfull
    refine ⟨fun hr => ?_, fun i hi => ?_⟩
    · -- something is ready
      exfalso
      apply hfull
      have : ∀ n i, i ≤ n → i ∈ vs → i ∈ L := by
        intro n
        induction n with
        | zero =>
          intro i hin hi
          false_or_by_contra
          rename_i hiL
          have hio := Array.getElem?_eq_getElem (hvs i hi).1
          have hm : i ∈ Region.ready .any ops listed := mem_ready.2 ⟨by rw [getD_flip (by rw [hsz]; exact (hvs i hi).1)]; have := fun h => hiL ((hl i hi).2 h); simpa using this, _, hio, fun e he hb => by
            have := ((hV i hi _ hio).1 e he hb).2
            omega⟩
          rw [hr] at hm
          cases hm
        | succ n ihn =>
          intro i hin hi
          false_or_by_contra
          rename_i hiL
          have hio := Array.getElem?_eq_getElem (hvs i hi).1
          have hm : i ∈ Region.ready .any ops listed := mem_ready.2 ⟨by rw [getD_flip (by rw [hsz]; exact (hvs i hi).1)]; have := fun h => hiL ((hl i hi).2 h); simpa using this, _, hio, fun e he hb => by
            obtain ⟨h1, h2⟩ := (hV i hi _ hio).1 e he hb
            have := (hl e.on h1).1 (ihn e.on (by omega) h1)
            exact this⟩
          rw [hr] at hm
          cases hm
      exact fun i hi => this i i (Nat.le_refl _) hi
    · obtain ⟨h0, oi, hoi, hdeps⟩ := mem_ready.1 hi
      have hin : i < ops.size := (Array.getElem?_eq_some_iff.1 hoi).1
      have h0' : listed.getD i false = false := by rw [← getD_flip (by rw [hsz]; exact hin)]; exact h0
      rcases hall i hin with hiv | hiv | hib
      · have hiL : i ∉ L := fun h => by rw [(hl i hiv).1 h] at h0'; cases h0'
        have hdL : ∀ d ∈ depsOf ops vs i, d ∈ L := fun d hd => by
          obtain ⟨hdv, e, he, hb, heq⟩ := (mem_depsOf hoi).1 hd
          have := hdeps e he hb
          rw [heq] at this
          exact (hl d hdv).2 this
        obtain ⟨o, ho, hop⟩ := need i hiv γ w hS fun d hd => hg d (hdL d hd)
        rw [hoi] at ho
        cases ho
        -- what has come up besides does not matter
        have hp : L.Perm (depsOf ops vs i ++ L.filter fun x => !(depsOf ops vs i).contains x) := by
          have h1 := (List.filter_append_perm (fun x => (depsOf ops vs i).contains x) L).symm
          refine h1.trans (List.Perm.append_right _ ?_)
          refine (List.perm_ext_iff_of_nodup (hLn.filter _) (hnd.filter _)).2 fun x => ?_
          rw [List.mem_filter]
          simp only [List.contains_eq_mem, decide_eq_true_eq]
          exact ⟨fun h => h.2, fun h => ⟨hdL x h, h⟩⟩
        have hput : putD ops γ L a0 = putD ops γ (L.filter fun x => !(depsOf ops vs i).contains x) (putD ops γ (depsOf ops vs i) a0) := by
          rw [putD_perm γ hp (fun x hx y hy => hdd x (hLv x hx) y (hLv y hy)) a0, putD_append]
        have hsame := same_putD (ops := ops) γ oi (fun cs b => hs i oi cs b hoi) (L.filter fun x => !(depsOf ops vs i).contains x) (putD ops γ (depsOf ops vs i) a0) fun x hx t ht => by
          obtain ⟨hxL, hxd⟩ := List.mem_filter.1 hx
          have hxv := hLv x hxL
          have hxo := Array.getElem?_eq_getElem (hvs x hxv).1
          have hxd' : x ∉ depsOf ops vs i := by simpa using hxd
          have hdx : (ops[x]'(hvs x hxv).1).dst = some t := by
            unfold dstOf at ht
            rw [hxo] at ht
            exact ht
          have hno : ∀ e ∈ oi.after, Region.binds .any e = true → e.on ≠ x := fun e he hb heq => hxd' ((mem_depsOf hoi).2 ⟨hxv, e, he, hb, heq⟩)
          have hne : x ≠ i := fun e => hiL (e ▸ hxL)
          rcases Nat.lt_or_gt_of_ne hne with hxi | hxi
          · exact (Oper.apart_spec ((hV i hiv oi hoi).2.1 x hxv hxi _ hxo hno)).1 t hdx
          · have hap := (hV x hxv _ hxo).2.1 i hiv hxi oi hoi fun e he hb heq => by
              have := hcl x _ e ((hl x hxv).1 hxL) hxo he hb
              rw [heq, h0'] at this
              cases this
            exact (Oper.apart_spec hap).2.2 t hdx
        rw [hput]
        refine (hop.of_same hsame.1 hsame.2).wpOp hoi fun v w' hv hb => ?_
        rw [← hput]
        have hγ : (putD ops γ L a0).put oi.dst v = putD ops (fun k => if k = i then v else γ k) (L ++ [i]) a0 := by
          rw [putD_append, putD_congr (γ := fun k => if k = i then v else γ k) (γ' := γ) L a0 fun k hk => (if_neg (fun e : k = i => hiL (e ▸ hk)) : (if k = i then v else γ k) = γ k)]
          show (putD ops γ L a0).put oi.dst v = (putD ops γ L a0).put (dstOf ops i) (if i = i then v else γ i)
          rw [if_pos rfl]
          unfold dstOf
          rw [hoi]
          rfl
        rw [hγ]
        refine ih _ _ _ _ (by simpa using hsz) ?_ ?_ ?_ ?_ (closed_set hcl hi) ?_ (hmono _ _ hS hb) ?_
        · rw [List.nodup_append]
          exact ⟨hLn, by simp, fun x hx y hy e => by simp at hy; exact hiL (hy ▸ e ▸ hx)⟩
        · intro x hx
          rcases List.mem_append.1 hx with h | h
          · exact hLv x h
          · simp at h; exact h ▸ hiv
        · intro x hx
          rw [listed_set (by rw [hsz]; exact hin), List.mem_append]
          by_cases hxi : x = i
          · subst hxi; simp
          · rw [if_neg hxi, ← hl x hx]; simp [hxi]
        · intro x hx
          have hxi : x ≠ i := fun e => (hvs i hiv).2.2 (e ▸ hx)
          rw [listed_set (by rw [hsz]; exact hin), if_neg hxi]
          exact hbl x hx
        · have hlen : (vs.filter fun x => !(L ++ [i]).contains x).length < (vs.filter fun x => !L.contains x).length := by
            have hsub : (vs.filter fun x => !(L ++ [i]).contains x) = (vs.filter fun x => !L.contains x).filter fun x => x != i := by
              rw [List.filter_filter]
              congr 1
              funext x
              simp only [List.contains_eq_mem, List.mem_append, List.mem_singleton]
              by_cases h1 : x ∈ L <;> by_cases h2 : x = i <;> simp [h1, h2]
            rw [hsub]
            refine List.length_filter_lt_length_iff_exists.2 ⟨i, List.mem_filter.2 ⟨hiv, by simpa using hiL⟩, by simp⟩
          omega
        · intro x hx
          rcases List.mem_append.1 hx with h | h
          · have hxi : x ≠ i := fun e => hiL (e ▸ h)
            show Φ x w' (if x = i then v else γ x)
            rw [if_neg hxi]
            exact hΦ x w w' _ (hg x h) hb
          · simp at h
            subst h
            show Φ x w' (if x = x then v else γ x)
            rw [if_pos rfl]
            exact hv
      · cases hiv
      · exfalso
        apply hfull
        intro x hx
        obtain ⟨k, hk⟩ := List.getElem?_of_mem hib
        have hw := (hB k i hk oi hoi).2 x (.inl hx)
        exact (hl x hx).2 (waits_listed hcl ops.size i x oi hoi hdeps hw)

/-- The values that have come, in the slots that are named. -/
def putE (γ : Nat → Value) : List (Nat × Option Tmp) → Act → Act
  | [], a => a
  | p :: r, a => putE γ r (a.put p.2 (γ p.1))
theorem putE_eq (γ : Nat → Value) : ∀ (l : List Nat) (a : Act), putE γ (l.map fun d => (d, dstOf ops d)) a = putD ops γ l a
  | [], _ => rfl
  | _ :: r, _ => putE_eq γ r _
/-- All that is known of these values. -/
def AllE (Φ : Nat → World → Value → Prop) (γ : Nat → Value) (w : World) : List (Nat × Option Tmp) → Prop
  | [] => True
  | [p] => Φ p.1 w (γ p.1)
  | p :: r => Φ p.1 w (γ p.1) ∧ AllE Φ γ w r
theorem allE_eq {Φ : Nat → World → Value → Prop} {γ : Nat → Value} {w : World} : ∀ l : List Nat, (∀ d ∈ l, Φ d w (γ d)) → AllE Φ γ w (l.map fun d => (d, dstOf ops d))
  | [], _ => trivial
  | [d], h => h d (by simp)
  | d :: e :: r, h => ⟨h d (by simp), allE_eq (e :: r) fun x hx => h x (List.mem_cons_of_mem _ hx)⟩
/-- What is to be shown of the operations, one by one: each with what it waits for. -/
def NeedE (P : Program) (ops : Array Oper) (S : World → Prop) (Φ : Nat → World → Value → Prop) (a0 : Act) : List Nat → List (List (Nat × Option Tmp)) → Prop
  | i :: r, d :: ds => (∀ (γ : Nat → Value) (w : World), S w → AllE Φ γ w d → ∃ o, ops[i]? = some o ∧ PredOp P ops o (Φ i) (putE γ d a0) w) ∧ NeedE P ops S Φ a0 r ds
  | _, _ => True
theorem needE_at {vs : List Nat} {Φ : Nat → World → Value → Prop} {a0 : Act} : ∀ l : List Nat, NeedE P ops S Φ a0 l (l.map fun i => (depsOf ops vs i).map fun d => (d, dstOf ops d)) → ∀ i ∈ l, ∀ (γ : Nat → Value) (w : World), S w → (∀ d ∈ depsOf ops vs i, Φ d w (γ d)) → ∃ o, ops[i]? = some o ∧ PredOp P ops o (Φ i) (putD ops γ (depsOf ops vs i) a0) w
  | [], _, _, hi => by cases hi
  | j :: r, h, i, hi => by
    rcases List.mem_cons.1 hi with rfl | hi
    · intro γ w hS hd
      obtain ⟨o, ho, hp⟩ := h.1 γ w hS (allE_eq _ hd)
      rw [putE_eq] at hp
      exact ⟨o, ho, hp⟩
    · exact needE_at r h.2 i hi

/-- As partsOk, without new variables; the end waits for all by edges of its own (so it is seen without going through all that it waits for). -/
def partsOkD (ops : Array Oper) (vs bs : List Nat) : Bool :=
  ((List.range ops.size).all fun i => vs.contains i || ([] : List Nat).contains i || bs.contains i) &&
  (vs.all fun i => decide (i < ops.size) && !([] : List Nat).contains i && !bs.contains i) && (([] : List Nat).all fun i => decide (i < ops.size) && !bs.contains i) && (bs.all fun i => decide (i < ops.size)) &&
  decide (vs.Pairwise (· < ·)) && decide (([] : List Nat).Nodup) &&
  (vs.all fun j => match ops[j]? with
    | some oj => (oj.after.all fun e => !Region.binds .any e || (vs.contains e.on && decide (e.on < j))) &&
        (vs.all fun i => !decide (i < j) || (oj.after.any fun e => Region.binds .any e && e.on == i) || (match ops[i]? with | some oi => oi.apart ops oj | none => false)) &&
        (([] : List Nat).all fun i => match ops[i]? with | some oi => oi.apart ops oj && oj.apart ops oi | none => false)
    | none => false) &&
  (([] : List Nat).all fun j => match ops[j]? with
    | some oj => (oj.after.all fun e => !Region.binds .any e) && oj.guard.isNone && (([] : List Nat).all fun i => i == j || (match ops[i]? with | some oi => oi.apart ops oj | none => false))
    | none => false) &&
  (bs.zipIdx.all fun (j, k) => match ops[j]? with
    | some oj => (oj.after.all fun e => !Region.binds .any e || vs.contains e.on || ([] : List Nat).contains e.on || (bs.take k).contains e.on) &&
        ((vs ++ [] ++ bs.take k).all fun x => oj.after.any fun e => Region.binds .any e && e.on == x)
    | none => false)
theorem partsOk_of_direct {vs bs : List Nat} (h : partsOkD ops vs bs = true) : partsOk ops vs [] bs = true := by
  unfold partsOkD at h
  unfold partsOk
  rw [Bool.and_eq_true] at h ⊢
  refine ⟨h.1, ?_⟩
  have h2 := h.2
  rw [List.all_eq_true] at h2 ⊢
  intro q hq
  have h3 := h2 q hq
  obtain ⟨j, k⟩ := q
  simp only at h3 ⊢
  cases ho : ops[j]? with
  | none => rw [ho] at h3; exact h3
  | some oj =>
    rw [ho] at h3
    simp only [Bool.and_eq_true] at h3 ⊢
    refine ⟨h3.1, ?_⟩
    have h4 := h3.2
    rw [List.all_eq_true] at h4 ⊢
    intro x hx
    have h5 := h4 x hx
    have hsz : ops.size = (ops.size - 1) + 1 := by
      have := (Array.getElem?_eq_some_iff.1 ho).1
      omega
    rw [hsz]
    unfold waits
    rw [ho]
    simp only [Array.any_eq_true', Bool.and_eq_true, Bool.or_eq_true] at h5 ⊢
    obtain ⟨e, he, hb, hx⟩ := h5
    exact ⟨e, he, hb, .inl hx⟩

/-- THE LAW. -/
theorem wp_region_pred {id : Nat} {a : Act} {w : World} (S : World → Prop) (vs bs : List Nat) (Φ : Nat → World → Value → Prop) (dl : List (List (Nat × Option Tmp))) (al : List (Nat × Option Tmp)) (hm : P.follows .mixedOrders = true) (hs : Region.noSelect ops = true) (hok : partsOkD ops vs bs = true) (hdst : dstsOk ops vs = true)
    (hdl : (vs.map fun i => (depsOf ops vs i).map fun d => (d, dstOf ops d)) = dl) (hal : (vs.map fun d => (d, dstOf ops d)) = al) (hbnd : bs.Nodup) (hlen : vs.length + bs.length ≤ ops.size) (hmono : Stays S) (hΦ : ∀ i w w' v, Φ i w v → Below w.heap.size w w' → Φ i w' v) (hS : S w.drew)
    (need : NeedE P ops S Φ a vs dl)
    (hD : ∀ (γ : Nat → Value) (w : World), S w → AllE Φ γ w al → wpOps P ops Q bs (putE γ al a) w) : (Code.region id ops true).wp P Q a w := by
  have hl0 : ∀ i, (Array.replicate ops.size false).getD i false = false := fun i => by
    by_cases hi : i < ops.size <;> simp [hi]
  subst hdl hal
  refine wp_region_any hm ?_
  exact wpAny_pred (Q := Q) hmono (Region.noSelect_spec hs) (partsOk_of_direct hok) hdst hbnd hΦ (fun i hi γ wx hSx h => needE_at vs need i hi γ wx hSx h) (fun γ wx hSx h => by rw [← putE_eq]; exact hD γ wx hSx (allE_eq _ h))
    ops.size (Array.replicate ops.size false) (fun _ => undef) [] w.drew (by simp) (by simp) (fun i hi => by cases hi) (fun i _ => by simp [hl0]) (fun i _ => hl0 i)
    (fun i o e hi => by rw [hl0] at hi; cases hi) (Nat.le_trans (Nat.add_le_add_right (List.length_filter_le _ _) _) hlen) hS (fun i hi => by cases hi)
theorem predRun_value {w : World} {V : World → Value → Prop} {r : Result Next} {v : Value} (h : r = .ok (.value v) w) (hv : V w v) : PredRun P w V r := by
  rw [h]
  exact ⟨hv, Below.refl _ _⟩
theorem predRun_new {w w' : World} {V : World → Value → Prop} {r : Result Next} {v : Value} (h : r = .ok (.value v) w') (hb : Below w.heap.size w w') (hv : V w' v) : PredRun P w V r := by
  rw [h]
  exact ⟨hv, hb⟩
theorem predRun_call {w : World} {V : World → Value → Prop} {r : Result Next} {f : FuncId} {args : Array Value} (h : r = .ok (.enter f args) w) (hc : Calls P f args w (fun e w'' => ∃ v, e = .returned v ∧ V w'' v ∧ Below w.heap.size w w'')) : PredRun P w V r := by
  rw [h]
  exact ⟨rfl, hc⟩
theorem exec_load_blk {o : Oper} {a : Act} {w : World} (ty : TypeId) (x : Operand) (ho : o.op = .load ty x)
    (g : Nat) (hx : a.eval x = .pointer (some ⟨g, 0, none⟩)) (t : TypeId) (cs : Array Value) (fr : Nat × Nat) (d : TypeDesc) (hg : w.heap[g]? = some (.cells cs t fr))
    (hu : P.underlying ty = some d) (hd : (match d with | .struct _ | .array _ _ => true | _ => false) = true) (hi : (P.info? ty).map (·.size) = some cs.size) :
    (execOp a.eval o).run P w = .ok (.value (.agg cs)) w := by
  unfold execOp
  simp only [ho, hx, Instr.loadAt, Instr.sureAddr, Sem.run_bind, Sem.run_pure, Result.andThen_ok, run_loadVar_row w g t ty cs fr d hg hu hd hi]
end
end Go.Proofs.Ytpljjmdkagbjpaa

namespace Go.Proofs.Ytpljjmdkagbjpaa
open Go.RowKit

theorem holds_one {w : World} {M : Nat} {a : Option Addr} {n c : Nat} {l : List Int} (h : HoldsB w M (.slice a n c) l) (hM : M ≤ w.heap.size) :
    HoldsP (w.alloc (.cells #[.slice a n c] 30)) (.slice (some ⟨w.heap.size, 0, none⟩) 1 1) [l] := by
  refine ⟨_, 1, rfl, by unfold maxLen; simp, fun i hi => ?_⟩
  have h0 : i = 0 := by simpa using hi
  subst h0
  refine ⟨w.heap.size, 0, a, n, c, rfl, by simp, ?_, ?_⟩
  · exact (Blk.new w (.cells #[.slice a n c] 30)).cell 0
  · have h2 := (h.mono hM).alloc (.cells #[.slice a n c] 30)
    exact h2.mono (by simp)
theorem holdsB_tail {w : World} {M : Nat} {v : Value} {k : Int} {l : List Int} (h : HoldsB w M v (k :: l)) :
    ∃ v', (∀ w1, (Instr.sliceAt 30 v (some (.int .i64 1)) none none).run Try.prog w1 = .ok v' w1) ∧ HoldsB w M v' l := by
  obtain ⟨v', h1, h2⟩ := h.back (k := 1) (by simp)
  exact ⟨v', h1, h2⟩
set_option maxRecDepth 100000 in
set_option maxHeartbeats 1000000 in
theorem of_any (M : Nat) (v : Value) (k : Int) (l : List Int) (w : World) (h : HoldsB w M v (k :: l)) (hlen : l.length ≤ 1000000) :
    Calls Try.prog 14 #[v] w fun q w' => q = .returned (dgV (shortL (k :: l))) ∧ Below w.heap.size w w' := by
  obtain ⟨vt, ht, hT⟩ := holdsB_tail h
  obtain ⟨a, len, cap, rfl, hlen0⟩ := h.slice
  obtain ⟨b, off, rfl, -, hc⟩ := h.cellAt (i := 0) (by simp)
  have hk8 : 0 ≤ k ∧ k ≤ 255 := h.bytes k (by simp)
  have hbw : b < w.heap.size := by
    obtain ⟨_, _, e, _, _, _, h5, _⟩ := h
    simp only [Value.slice.injEq] at e
    exact (h5 _ e.1.symm (by simp)).2.2
  obtain ⟨at0, nt, ct, rfl, -⟩ := hT.slice
  have HT := Kp.mk hT
  have H8 := Kp.mk hk8
  have HL := Kp.mk hlen
  have hc0 : w.cell? ⟨b, off, none⟩ = some (.int .u8 k) := by simpa using hc
  have HC0 := Kp.mk hc0
  have HBW := Kp.mk hbw
  have hpos : 0 < len := by rw [hlen0]; simp
  have HPO := Kp.mk hpos
  have HTT : Kp (∀ w1, (Instr.sliceAt 30 (.slice (some ⟨b, off, none⟩) len cap) (some (.int .i64 1)) none none).run Try.prog w1 = .ok (.slice at0 nt ct) w1) := ⟨ht⟩
  clear h hc hc0 hbw hk8 hT hlen hlen0 ht
  go_enter Try.func14, Try.ntmps14
  go_wp2_with fail
  obtain ⟨A, hA⟩ : ∃ A, A = w.heap.size := ⟨_, rfl⟩
  have HA := Kp.mk hA
  rw [← hA]
  refine wp_world (fun W => Row W A 22 .u8 (fill 16 []) ∧ Below A w W) ⟨Blk.newAt _ hA, by rw [hA]; exact more (Below.refl _ _) _⟩ ?_
  clear hA
  rintro W ⟨h1, h5⟩
  refine wp_region_pred (fun w' => Row w' A 22 .u8 (fill 16 []) ∧ Below A w w') [0, 1, 2, 3, 4, 5, 6] [7]
    (fun i w' v => match i with
      | 0 => v = .slice (some ⟨b, off, none⟩) len cap
      | 1 => v = .pointer (some ⟨b, off, none⟩)
      | 2 => v = .int .u8 k
      | 3 => v = .slice (some ⟨b, off, none⟩) len cap
      | 4 => v = .slice at0 nt ct
      | 5 => HoldsP w' v [l]
      | _ => v = dgV (shortL (k :: l)))
    [[], [(0, some 3)], [(1, some 4)], [], [(3, some 6)], [(4, some 7)], [(2, some 5), (5, some 8)]] [(0, some 3), (1, some 4), (2, some 5), (3, some 6), (4, some 7), (5, some 8), (6, some 9)]
    (by kernel_rfl) (by kernel_rfl) (by kernel_rfl) (by kernel_rfl) (by kernel_rfl) (by kernel_rfl) (by decide) (by decide) (fun w1 w2 h hb => ⟨h.1.keep hb, h.2.trans (hb.mono (Nat.le_of_lt h.1.lt))⟩) ?_ ⟨h1.drew, h5.drew⟩ ?_ ?_
  · intro i w1 w2 v h hb
    match i, h with
    | 0, h => exact h
    | 1, h => exact h
    | 2, h => exact h
    | 3, h => exact h
    | 4, h => exact h
    | 5, h => exact HoldsP.keep h hb
    | _ + 6, h => exact h
  · refine ⟨fun γ wx hS h => ⟨_, rfl, Or.inl ⟨rfl, ?_⟩⟩, fun γ wx hS h => ⟨_, rfl, Or.inl ⟨rfl, ?_⟩⟩, fun γ wx hS h => ⟨_, rfl, Or.inl ⟨rfl, ?_⟩⟩, fun γ wx hS h => ⟨_, rfl, Or.inl ⟨rfl, ?_⟩⟩, fun γ wx hS h => ⟨_, rfl, Or.inl ⟨rfl, ?_⟩⟩, fun γ wx hS h => ⟨_, rfl, Or.inl ⟨rfl, ?_⟩⟩, fun γ wx hS h => ⟨_, rfl, Or.inl ⟨rfl, ?_⟩⟩, trivial⟩
    · exact predRun_value rfl rfl
    · have h0' : γ 0 = .slice (some ⟨b, off, none⟩) len cap := h
      exact predRun_value (v := .pointer (some ⟨b, off, none⟩)) (by simp only [putE, h0']; have := HPO.out; go_simp) rfl
    · have h1' : γ 1 = .pointer (some ⟨b, off, none⟩) := h
      have hc : wx.cell? ⟨b, off, none⟩ = some (.int .u8 k) := (World.cell?_of_block (w := w) (a := ⟨b, off, none⟩) (hS.2.block b (by rw [HA.out]; exact HBW.out))).trans HC0.out
      exact predRun_value (v := .int .u8 k) (by simp only [putE, h1']; go_simp) rfl
    · exact predRun_value rfl rfl
    · have h3' : γ 3 = .slice (some ⟨b, off, none⟩) len cap := h
      have ht := HTT.out
      exact predRun_value (v := .slice at0 nt ct) (by simp only [putE, h3']; go_simp) rfl
    · have h4' : γ 4 = .slice at0 nt ct := h
      have hT2 : HoldsB wx wx.heap.size (.slice at0 nt ct) l := (HT.out.keep (by rw [← HA.out]; exact hS.2)).own
      exact predRun_new (w' := wx.alloc (.cells #[.slice at0 nt ct] 30)) (v := .slice (some ⟨wx.heap.size, 0, none⟩) 1 1) (by simp only [putE, h4']; go_simp) (more (Below.refl _ _) _) (holds_one hT2 (Nat.le_refl _))
    · obtain ⟨h2, h5⟩ := h
      have h2' : γ 2 = .int .u8 k := h2
      have h5' : HoldsP wx (γ 5) [l] := h5
      obtain ⟨a, n, c, e5, _⟩ := h5'.slice
      rw [e5] at h5'
      refine predRun_call (f := 18) (args := #[γ 2, γ 5]) (by simp only [putE]; go_simp) ?_
      rw [e5, h2']
      refine (rshort_any k a n c _ wx H8.out h5' (by simp; have := HL.out; omega)).mono ?_
      rintro q w2 ⟨rfl, hb⟩
      exact ⟨_, rfl, congrArg (fun t => dgV (shortL (k :: t))) (by simp), hb⟩
  · intro γ w9 hS h
    have h6 : γ 6 = dgV (shortL (k :: l)) := h.2.2.2.2.2.2
    obtain ⟨z, hz⟩ : ∃ z, z = shortL (k :: l) := ⟨_, rfl⟩
    have HD := Kp.mk (shortL_len (k :: l))
    rw [← hz] at h6 HD
    have HC := Kp.mk (cells49 HD.out)
    have HZ := Kp.mk (size50 HD.out)
    have HF := Kp.mk (hS.1.setRow z)
    have HBf := Kp.mk (Below.row hS.2 (g := A) (Nat.le_refl _) (kv .u8 z).toArray)
    simp only [putE, Act.put, List.setIfInBounds_toArray, List.set_cons_zero, List.set_cons_succ]
    rw [h6]
    refine wpOps_step rfl rfl ?_
    refine wp_store_row 22 (.tmp 2) (.tmp 9) rfl A (kv .u8 z).toArray rfl rfl 22 _ hS.1 HC.out HZ.out (kv_all _ _) ?_
    refine wpOps_done ?_
    have HK9 := Kp.mk hz
    clear h hS h6 hz
    go_wp2_with fail
    refine bodyPost_ret (v := dgV z) ?_ rfl ⟨by rw [HK9.out], by rw [← HA.out]; exact HBf.out⟩
    exact results_cell_row rfl _ _ A 22 _ (0, 0) _ rfl HF.out Try.underlying22 rfl HC.out
end Go.Proofs.Ytpljjmdkagbjpaa

namespace Go.Proofs.Ytpljjmdkagbjpaa
open Go.RowKit

theorem info22 : (Try.prog.info? 30).map (fun i => (i.zero, i.size, i.bytes)) = some (some (.slice none 0 0), 1, 24) := by kernel_rfl
/-- The slice v shows texts: its row lies below N, their bytes below M. -/
def TextsAt (w : World) (N M : Nat) (v : Value) (ts : List (List Int)) : Prop :=
  ∃ a cap, v = .slice a ts.length cap ∧ ∀ i, i < ts.length → ∃ b off a1 n1 c1, a = some ⟨b, off, none⟩ ∧ b < N ∧ b < w.heap.size ∧ w.cell? ⟨b, off + i, none⟩ = some (.slice a1 n1 c1) ∧ HoldsB w M (.slice a1 n1 c1) (ts.getD i [])
theorem HoldsP.texts {w : World} {v : Value} {ts : List (List Int)} (h : HoldsP w v ts) : TextsAt w w.heap.size w.heap.size v ts := by
  obtain ⟨a, cap, e, _, h3⟩ := h
  refine ⟨a, cap, e, fun i hi => ?_⟩
  obtain ⟨b, off, a1, n1, c1, e1, e2, e3, e4⟩ := h3 i hi
  exact ⟨b, off, a1, n1, c1, e1, e2, e2, e3, e4⟩
theorem HoldsB.upto {w w' : World} {M B : Nat} {v : Value} {l : List Int} (h : HoldsB w M v l) (hb : Below B w w') (hM : M ≤ B) : HoldsB w' M v l := h.frame hb.size fun k hk _ => hb.block k (by omega)
theorem TextsAt.upto {w w' : World} {N M B : Nat} {v : Value} {ts : List (List Int)} (h : TextsAt w N M v ts) (hb : Below B w w') (hN : N ≤ B) (hM : M ≤ B) : TextsAt w' N M v ts := by
  obtain ⟨a, cap, e, h3⟩ := h
  refine ⟨a, cap, e, fun i hi => ?_⟩
  obtain ⟨b, off, a1, n1, c1, e1, e2, e3, e4, e5⟩ := h3 i hi
  exact ⟨b, off, a1, n1, c1, e1, e2, Nat.lt_of_lt_of_le e3 hb.size, (World.cell?_of_block (w := w) (a := ⟨b, off + i, none⟩) (hb.block b (by omega))).trans e4, e5.upto hb hM⟩
theorem TextsAt.mono {w : World} {N M N' M' : Nat} {v : Value} {ts : List (List Int)} (h : TextsAt w N M v ts) (hN : N ≤ N') (hM : M ≤ M') : TextsAt w N' M' v ts := by
  obtain ⟨a, cap, e, h3⟩ := h
  refine ⟨a, cap, e, fun i hi => ?_⟩
  obtain ⟨b, off, a1, n1, c1, e1, e2, e3, e4, e5⟩ := h3 i hi
  exact ⟨b, off, a1, n1, c1, e1, by omega, e3, e4, e5.mono hM⟩
/-- A row of texts that the call made. -/
def RowT (w : World) (base M : Nat) (v : Value) (ts : List (List Int)) : Prop :=
  ∃ vs : List Value, w.ownsRow base 30 1 v ts.length vs ∧ vs.length = ts.length ∧ ∀ i, i < ts.length → ∃ a n c, vs[i]? = some (.slice a n c) ∧ HoldsB w M (.slice a n c) (ts.getD i [])
theorem RowT.nil (w : World) (base M : Nat) : RowT w base M (.slice none 0 0) [] := ⟨[], World.ownsRow_nil _ _ _ _, rfl, fun i hi => by simp at hi⟩
theorem RowT.below {w w' : World} {base M : Nat} {v : Value} {ts : List (List Int)} (h : RowT w base M v ts) (hb : Below w.heap.size w w') : RowT w' base M v ts := by
  obtain ⟨vs, h1, h2, h3⟩ := h
  refine ⟨vs, ownsRow_below h1 hb, h2, fun i hi => ?_⟩
  obtain ⟨a, n, c, e, hh⟩ := h3 i hi
  exact ⟨a, n, c, e, hh.keep hb⟩
theorem RowT.slice {w : World} {base M : Nat} {v : Value} {ts : List (List Int)} (h : RowT w base M v ts) : ∃ a c, v = .slice a ts.length c := by
  obtain ⟨vs, h1, _, _⟩ := h
  rcases h1.2 with ⟨rfl, hn⟩ | ⟨g, cap, cur, rfl, _⟩
  · rw [hn]; exact ⟨_, _, rfl⟩
  · exact ⟨_, _, rfl⟩
/-- Such a row shows its texts. -/
theorem RowT.holds {w : World} {base M : Nat} {v : Value} {ts : List (List Int)} (h : RowT w base M v ts) (hM : M ≤ w.heap.size) : HoldsP w v ts := by
  obtain ⟨vs, h1, h2, h3⟩ := h
  rcases h1.2 with ⟨rfl, hn⟩ | ⟨g, cap, cur, rfl, hb, hg, hle, hcap, hsz, ht⟩
  · have : ts = [] := List.length_eq_zero_iff.1 hn
    subst this
    exact ⟨none, 0, rfl, by unfold maxLen; simp, fun i hi => by simp at hi⟩
  · refine ⟨_, cap, rfl, by omega, fun i hi => ?_⟩
    obtain ⟨a, n, c, e, hh⟩ := h3 i hi
    refine ⟨g, 0, a, n, c, rfl, (Array.getElem?_eq_some_iff.1 hg).1, ?_, hh.mono hM⟩
    rw [cell_of_row w g (0 + i) cur 30 (0, 0) hg, Nat.zero_add, ← Array.getElem?_toList, ← e, ← ht, List.getElem?_take, if_pos (by omega)]
/-- The values of a row that shows texts. -/
theorem TextsAt.vals {w : World} {N M : Nat} {v : Value} {ts : List (List Int)} (h : TextsAt w N M v ts) (h0 : 0 < ts.length) :
    ∃ ad c, ∃ vs : List Value, v = .slice (some ad) ts.length c ∧ vs.length = ts.length ∧ (∀ j u, vs[j]? = some u → w.cell? (ad.add j) = some u) ∧ (∀ u ∈ vs, u.oneCell' = true) ∧
      ∀ i, i < ts.length → ∃ a n c, vs[i]? = some (.slice a n c) ∧ HoldsB w M (.slice a n c) (ts.getD i []) := by
  obtain ⟨a, cap, rfl, h3⟩ := h
  obtain ⟨b, off, _, _, _, e0, _⟩ := h3 0 h0
  subst e0
  have each : ∀ i, i < ts.length → ∃ a1 n1 c1, w.cell? ⟨b, off + i, none⟩ = some (.slice a1 n1 c1) ∧ HoldsB w M (.slice a1 n1 c1) (ts.getD i []) := fun i hi => by
    obtain ⟨b', off', a1, n1, c1, e, _, _, hc, hh⟩ := h3 i hi
    simp only [Option.some.injEq, Addr.mk.injEq, and_true] at e
    obtain ⟨rfl, rfl⟩ := e
    exact ⟨a1, n1, c1, hc, hh⟩
  obtain ⟨f, hf⟩ : ∃ f : Nat → Value, ∀ i, i < ts.length → (∃ a1 n1 c1, f i = .slice a1 n1 c1 ∧ HoldsB w M (.slice a1 n1 c1) (ts.getD i [])) ∧ w.cell? ⟨b, off + i, none⟩ = some (f i) := by
    refine ⟨fun i => (w.cell? ⟨b, off + i, none⟩).getD undef, fun i hi => ?_⟩
    obtain ⟨a1, n1, c1, hc, hh⟩ := each i hi
    simp only [hc, Option.getD_some]
    exact ⟨⟨a1, n1, c1, rfl, hh⟩, trivial⟩
  refine ⟨⟨b, off, none⟩, cap, (List.range ts.length).map f, rfl, by simp, fun j u hu => ?_, fun u hu => ?_, fun i hi => ?_⟩
  · have e : (⟨b, off, none⟩ : Addr).add j = ⟨b, off + j, none⟩ := by unfold Addr.add; split <;> simp_all
    rw [e]
    by_cases hj : j < ts.length
    · rw [List.getElem?_map, List.getElem?_range hj] at hu
      rw [(hf j hj).2]
      exact hu
    · rw [List.getElem?_eq_none (by simp; omega)] at hu
      cases hu
  · obtain ⟨i, hi, rfl⟩ := List.mem_map.1 hu
    obtain ⟨⟨a1, n1, c1, e, _⟩, _⟩ := hf i (List.mem_range.1 hi)
    rw [e]
    rfl
  · obtain ⟨⟨a1, n1, c1, e, hh⟩, _⟩ := hf i hi
    exact ⟨a1, n1, c1, by rw [List.getElem?_map, List.getElem?_range hi]; exact congrArg some e, hh⟩
/-- append of texts that stand somewhere, to a row of the call's own. -/
theorem wpList_append_texts {w : World} {ops : Array Oper} {rest : List Oper} {o : Oper} {a : Act} {Q : Exit → Act → World → Prop} (hgd : o.guard = none) (s x : Operand)
    (ho : o.op = .call { callee := .builtin .append, args := #[s, x], argTypes := #[26, 26] })
    (base N M : Nat) (v : Value) (ts us : List (List Int)) (hs : a.eval s = v) (hown : RowT w base M v ts) (hM : M ≤ base) (u : Value) (hx : a.eval x = u) (hp : TextsAt w N M u us) (h0 : 0 < us.length) (h63 : ts.length + us.length ≤ 1000000) (hbase : base ≤ w.heap.size)
    (h : ∀ v' w', RowT w' base M v' (ts ++ us) → Below base w w' → wpList Try.prog ops Q rest (a.put o.dst v') w') : wpList Try.prog ops Q (o :: rest) a w := by
  obtain ⟨i0, hi, hz0, hz1, hz2⟩ := info_parts info22
  obtain ⟨vs, h1, h2, h3⟩ := hown
  obtain ⟨ad, c, ws, rfl, k1, k2, k3, k4⟩ := hp.vals h0
  refine wpList_append_own w hgd s x 26 ho base 30 i0 (.slice none 0 0) 1 24 Try.underlying26 hi hz0 hz1 hz2 rfl (by decide) v ts.length vs hs h1 ad us.length c ws hx (by rw [k1]; omega) k2 k3 (by unfold maxLen; omega) (by omega) hbase fun v' w' r1 r2 _ => ?_
  have hb : Below base w w' := below_row_grown (Below.refl _ _) hbase h1 r2
  refine h v' w' ⟨vs ++ ws, by rw [List.length_append]; exact r1, by simp [h2, k1], fun i hi => ?_⟩ hb
  rw [List.length_append] at hi
  by_cases hlt : i < ts.length
  · obtain ⟨a1, n1, c1, e, hh⟩ := h3 i hlt
    refine ⟨a1, n1, c1, by rw [List.getElem?_append_left (by omega)]; exact e, ?_⟩
    have hg : (ts ++ us).getD i [] = ts.getD i [] := by rw [List.getD_eq_getElem?_getD, List.getD_eq_getElem?_getD, List.getElem?_append_left hlt]
    rw [hg]
    exact hh.upto hb hM
  · obtain ⟨a1, n1, c1, e, hh⟩ := k4 (i - ts.length) (by omega)
    refine ⟨a1, n1, c1, by rw [List.getElem?_append_right (by omega), h2]; exact e, ?_⟩
    have hg : (ts ++ us).getD i [] = us.getD (i - ts.length) [] := by rw [List.getD_eq_getElem?_getD, List.getD_eq_getElem?_getD, List.getElem?_append_right (by omega)]
    rw [hg]
    exact hh.upto hb hM
end Go.Proofs.Ytpljjmdkagbjpaa

namespace Go.Proofs.Ytpljjmdkagbjpaa
open Go.RowKit

/-- append to a row of the call's own, and in which block what comes of it lies. -/
theorem wpList_append_own2 {P : Program} {w : World} {ops : Array Oper} {rest : List Oper} {o : Oper} {a : Act} {Q : Exit → Act → World → Prop} (hgd : o.guard = none) (s x : Operand) (t : TypeId)
    (ho : o.op = .call { callee := .builtin .append, args := #[s, x], argTypes := #[t, t] })
    (base : Nat) (e : TypeId) (i : TypeInfo) (z : Value) (size bytes : Nat) (ht : P.underlying t = some (.slice e)) (hi : P.info? e = some i) (hz : i.zero = some z)
    (hsize : i.size = size) (hby : i.bytes = bytes) (hzs : z.cells.size = size) (hsz : 0 < size)
    (v : Value) (n : Nat) (xs : List Value) (hs : a.eval s = v) (hown : w.ownsRow base e size v n xs)
    (ad : Addr) (m c : Nat) (news : List Value) (hx : a.eval x = .slice (some ad) m c) (hl : news.length = m * size) (hnews : ∀ j u, news[j]? = some u → w.cell? (ad.add j) = some u) (h1 : ∀ u ∈ news, u.oneCell' = true)
    (h63 : n + m ≤ maxLen) (hbytes : (n + m) * bytes ≤ 140737488355328) (hbase : base ≤ w.heap.size)
    (h : ∀ v' w', w'.ownsRow base e size v' (n + m) (xs ++ news) → w.grownBy w' v.ownBlock → (∀ k, v'.ownBlock = some k → v.ownBlock = some k ∨ w.heap.size ≤ k) → wpList P ops Q rest (a.put o.dst v') w') : wpList P ops Q (o :: rest) a w := by
  have hv := hown.2
  rcases hv with ⟨hv, h0⟩ | ⟨g, cap, cur, hv, hg, hh, hn, hc, hsz2, htk⟩
  · subst h0
    have hxs : xs = [] := List.eq_nil_of_length_eq_zero (by simpa using hown.1)
    subst hxs
    refine wpList_plain hgd fun K hK => ?_
    rw [hv] at hs
    obtain ⟨v', w', hrun, r1, r2, _⟩ := run_append_own (P := P) w w.heap.size t o.type e i z size bytes ht hi hz hsize hby hzs hsz (.slice none 0 0) 0 [] (World.ownsRow_nil w _ e size) ad m c news hl hnews h1 h63 hbytes (Nat.le_refl _)
    unfold Oper.wp
    simp [execOp, ho, resolve, invoke, builtin, hs, hx, hrun, Result.andThen]
    refine hK _ _ (h v' w' (ownsRow_base r1 hbase) (by rw [hv]; exact r2) fun k hk => .inr (r1.lt k hk).1)
  · subst hv
    by_cases hroom : n + m ≤ cap
    · refine wpList_append_fits w hgd s x t ho base e i size ht hi hsize g n cap xs hs hown ad m c news hx hl hnews h1 hroom fun w' h2 h3 => ?_
      exact h _ w' h2 h3 fun k hk => .inl hk
    · refine wpList_append_grows w hgd s x t ho e i z size bytes ht hi hz hsize hby hzs hsz (some ⟨g, 0, none⟩) n cap xs hs (fun e => by cases e) hown.1 (fun b hb => by cases hb; exact hown.cells rfl) ad m c news hx hl hnews h1 (by omega) h63 hbytes fun v' w' h2 h3 => ?_
      exact h v' w' (ownsRow_base h2 hbase) ⟨h3.os, h3.tape, h3.output, h3.size, fun k hk _ => h3.block k hk (by simp)⟩ fun k hk => .inr (h2.lt k hk).1

/-- append of bytes that stand somewhere, to a row of the call's own, and in which block what comes of it lies. -/
theorem wpList_append_holds2 {w : World} {ops : Array Oper} {rest : List Oper} {o : Oper} {a : Act} {Q : Exit → Act → World → Prop} (hgd : o.guard = none) (s x : Operand)
    (ho : o.op = .call { callee := .builtin .append, args := #[s, x], argTypes := #[30, 30] })
    (base : Nat) (v : Value) (n : Nat) (xs : List Value) (hs : a.eval s = v) (hown : w.ownsRow base 5 1 v n xs)
    (M : Nat) (u : Value) (p : List Int) (hx : a.eval x = u) (hp : HoldsB w M u p) (h63 : n + p.length ≤ 140737488355328) (hbase : base ≤ w.heap.size)
    (h : ∀ v' w', w'.ownsRow base 5 1 v' (n + p.length) (xs ++ bv p) → w.grownBy w' v.ownBlock → (∀ k, v'.ownBlock = some k → v.ownBlock = some k ∨ w.heap.size ≤ k) → wpList Try.prog ops Q rest (a.put o.dst v') w') : wpList Try.prog ops Q (o :: rest) a w := by
  obtain ⟨i0, hi, hz0, hz1, hz2⟩ := info_parts info5
  obtain ⟨ad, m, cap, rfl, hm⟩ := hp.slice
  cases ad with
  | none =>
    obtain ⟨a', cap', h1, h2, h3, h4, h5, h6, h7⟩ := hp
    simp only [Value.slice.injEq] at h1
    have hc := h4 h1.1.symm
    have hl : p = [] := List.length_eq_zero_iff.1 (by omega)
    subst hl
    have hx' : a.eval x = .slice none 0 0 := by rw [hx]; simp only [Value.slice.injEq, true_and]; exact ⟨by simpa using hm, by omega⟩
    exact wpList_append_own_none hgd s x 30 ho base 5 i0 1 Try.underlying30 hi v n xs hs hown hx' (h v w (by simpa using hown) ⟨rfl, rfl, rfl, Nat.le_refl _, fun _ _ _ => rfl⟩ fun k hk => .inl hk)
  | some ad =>
    refine wpList_append_own2 (w := w) hgd s x 30 ho base 5 i0 (.int .u8 0) 1 1 Try.underlying30 hi hz0 hz1 hz2 rfl (by decide) v n xs hs hown ad m cap (bv p) hx (by rw [bv_len]; omega) hp.news (bv_one _) (by unfold maxLen; omega) (by omega) hbase fun v' w' h1 h2 h3 => ?_
    rw [hm] at h1
    exact h v' w' h1 h2 h3
theorem over_succ {l : List Int} {j : Nat} (h : j < l.length) (x : Int) : over (l.take (j + 1)) x = over (l.take j) x ++ [bits .xor .u8 (l.getD j 0) x] := by
  rw [take_succ_get h]
  unfold over
  rw [List.map_append]
  rfl
/-- Two rows of the call's own, in no one block. -/
structure Twin (w : World) (A : Nat) (v u : Value) (n m : Nat) (l k : List Int) : Prop where
  one : w.ownsRow A 5 1 v n (bv l)
  two : w.ownsRow A 5 1 u m (bv k)
  off : ∀ g, v.ownBlock = some g → u.ownBlock ≠ some g
theorem Twin.swap {w : World} {A : Nat} {v u : Value} {n m : Nat} {l k : List Int} (h : Twin w A v u n m l k) : Twin w A u v m n k l := ⟨h.two, h.one, fun g e1 e2 => h.off g e2 e1⟩
theorem Twin.alloc {w : World} {A : Nat} {v u : Value} {n m : Nat} {l k : List Int} (h : Twin w A v u n m l k) (o : Obj) : Twin (w.alloc o) A v u n m l k := ⟨h.one.alloc o, h.two.alloc o, h.off⟩
theorem Twin.step {w w' : World} {A : Nat} {v u v' : Value} {n m : Nat} {l k : List Int} {p : List Int} (h : Twin w A v u n m l k) (h1 : w'.ownsRow A 5 1 v' (n + p.length) (bv l ++ bv p)) (h2 : w.grownBy w' v.ownBlock)
    (h3 : ∀ g, v'.ownBlock = some g → v.ownBlock = some g ∨ w.heap.size ≤ g) : Twin w' A v' u (n + p.length) m (l ++ p) k := by
  refine ⟨by rw [show bv (l ++ p) = bv l ++ bv p by simp]; exact h1, ?_, fun g hg hu => ?_⟩
  · refine h.two.kept (row := v.ownBlock) h2 ?_
    by_cases hu : u.ownBlock = none
    · exact Or.inl hu
    · obtain ⟨g, hg⟩ := Option.ne_none_iff_exists'.1 hu
      exact Or.inr (fun e => h.off g (by rw [← e]; exact hg) hg)
  · rcases h3 g hg with h4 | h4
    · exact h.off g h4 hu
    · have := (h.two.lt g hu).2
      omega
end Go.Proofs.Ytpljjmdkagbjpaa

namespace Go.Proofs.Ytpljjmdkagbjpaa
open Go.RowKit

/-- A number as so many bytes. -/
def numL (x : Int) (k : Nat) : List Int := (List.range k).map fun i => x / 256 ^ (k - 1 - i) % 256
theorem numL_len (x : Int) (k : Nat) : (numL x k).length = k := by simp [numL]
theorem numL_eight (x : Int) : numL x 8 = be64 x := rfl
theorem numL_bytes (x : Int) (k : Nat) : Bytes (numL x k) := by
  intro y hy
  obtain ⟨i, _, rfl⟩ := List.mem_map.1 hy
  omega
/-- What stands behind j rounds. -/
def lowN (x : Int) (k j : Nat) : List Int := List.replicate (k - j) 0 ++ (numL x k).drop (k - j)
theorem lowN_len (x : Int) (k j : Nat) (_h : j ≤ k) : (lowN x k j).length = k := by simp [lowN, numL_len]
theorem lowN_full (x : Int) (k : Nat) : lowN x k k = numL x k := by simp [lowN]
theorem lowN_zero (x : Int) (k : Nat) : lowN x k 0 = List.replicate k 0 := by simp [lowN, List.drop_of_length_le (Nat.le_of_eq (numL_len x k))]
theorem lowN_set (x : Int) (k j : Nat) (h : j < k) : (lowN x k j).set (k - 1 - j) (x / 256 ^ j % 256) = lowN x k (j + 1) := by
  unfold lowN
  have e : k - j = (k - (j + 1)) + 1 := by omega
  rw [e, List.replicate_succ', List.append_assoc, List.set_append_right _ _ (by simp; omega)]
  have e2 : k - 1 - j - (List.replicate (k - (j + 1)) (0 : Int)).length = 0 := by simp; omega
  rw [e2]
  congr 1
  rw [List.singleton_append, List.set_cons_zero, List.drop_eq_getElem_cons (i := k - (j + 1)) (by rw [numL_len]; omega)]
  congr 1
  unfold numL
  rw [List.getElem_map, List.getElem_range, show k - 1 - (k - (j + 1)) = j by omega]
theorem make22 (k : Nat) (h : k = 4 ∨ k = 8) (w : World) : (Instr.makeSlice 30 (.int .i64 k) (.int .i64 k)).run Try.prog w = .ok (.slice (some ⟨w.heap.size, 0, none⟩) k k) (w.alloc (.cells (kv .u8 (List.replicate k 0)).toArray 5)) := by
  rcases h with rfl | rfl <;> kernel_rfl
set_option maxRecDepth 100000 in
set_option maxHeartbeats 1000000 in
theorem num_any (x : Int) (k : Nat) (w : World) (hk : k = 4 ∨ k = 8) (h0 : 0 ≤ x) (h1 : x < 18446744073709551616) :
    Calls Try.prog 19 #[.int .u64 x, .int .i64 k] w fun r w' => ∃ v', r = .returned v' ∧ HoldsB w' w'.heap.size v' (numL x k) ∧ Below w.heap.size w w' := by
  have hm := make22 k hk
  have k1 : 1 ≤ k := by omega
  have k8 : k ≤ 8 := by omega
  clear hk
  go_enter Try.func19, Try.ntmps19
  go_wp2_with fail
  obtain ⟨A, hA⟩ : ∃ A, A = w.heap.size := ⟨_, rfl⟩
  have HA := Kp.mk hA
  rw [← hA]
  refine wp_world (fun W => Row W A 5 .u8 (lowN x k 0) ∧ Below A w W) ⟨by rw [lowN_zero]; unfold Row; simpa using Blk.newAt (w := w) (.cells (Array.replicate k (.int .u8 0)) 5) hA, by rw [hA]; exact more (Below.refl _ _) _⟩ ?_
  rintro W ⟨h2, h3⟩
  have G1 := Kp.mk h2
  have G2 := Kp.mk h3
  clear h2 h3 hA hm
  go_loopw [0, 6] (fun q c wr => ∃ j : Nat, j ≤ k ∧ c = .int .i64 ((k : Int) - 1 - j) ∧ q = .int .u64 (x / 256 ^ j) ∧ Row wr A 5 .u8 (lowN x k j) ∧ Below A w wr) (fun _ c _ => (intOf c + 1).toNat)
  case atStart => exact ⟨0, by omega, by simp, by simp, G1.out, G2.out⟩
  case round =>
    obtain ⟨j, hj, rfl, rfl, h2, h3⟩ := hrel
    clear G1 G2
    have G1 := Kp.mk h2
    have G2 := Kp.mk h3
    clear h2 h3
    have q0 : 0 ≤ x / 256 ^ j := Int.ediv_nonneg h0 (Int.pow_nonneg (by decide))
    have q1 : x / 256 ^ j < 18446744073709551616 := Int.lt_of_le_of_lt (Int.ediv_le_self _ h0) h1
    have HQ : Kp (x / 256 ^ j / 256 = x / 256 ^ (j + 1)) := ⟨by rw [Int.ediv_ediv_of_nonneg (Int.pow_nonneg (by decide)), Int.pow_succ]⟩
    have HS := fun h => Kp.mk (lowN_set x k j h)
    generalize hQ : x / 256 ^ j = Q at *
    by_cases hlj : j < k
    · have HS2 := HS hlj
      clear HS
      obtain ⟨i, hi⟩ : ∃ i : Nat, (k : Int) - 1 - j = i := ⟨k - 1 - j, by omega⟩
      have HI : Kp (i = k - 1 - j ∧ i < k) := ⟨by omega⟩
      rw [hi]
      have ik : i < k := by omega
      have i8 : i < 8 := by omega
      have cw := G1.out.cell (i := i) (by rw [lowN_len x k j hj]; exact ik)
      have fw := G1.out.frozen i
      have HHi := Kp.mk hi
      clear hi hQ
      go_wp2_with fail
      refine ⟨⟨j + 1, by omega, ?_, ?_, ?_, G2.out.setCell (by exact Nat.le_refl _) _⟩, by simp [intOf]⟩
      · have := HHi.out
        congr 1
        omega
      · rw [HQ.out]
      · refine (G1.out.set i _).as ?_
        rw [HI.out.1]
        exact HS2.out
    · have HJ : Kp (j = k) := ⟨by omega⟩
      obtain ⟨i, hi⟩ : ∃ i : Int, (k : Int) - 1 - j = i := ⟨_, rfl⟩
      rw [hi]
      have i0 : i < 0 := by omega
      have G4 : Kp (Row wr A 5 .u8 (numL x k)) := by
        have h := G1.out
        rw [HJ.out, lowN_full] at h
        exact ⟨h⟩
      have HH : Kp (HoldsB wr wr.heap.size (.slice (some ⟨A, 0, none⟩) k k) (numL x k)) :=
        ⟨HoldsB.ofRow2 (off := 0) G4.out (numL_len x k).symm (Nat.le_refl _) (by unfold maxLen; omega) (fun i hi => by simp [List.getElem?_eq_getElem hi, List.getD_eq_getElem?_getD]) (numL_bytes x k)⟩
      clear HS hi hQ G1 hlj hj
      go_wp2_with fail
      go_ret
      exact ⟨_, rfl, HH.out, by rw [← HA.out]; exact G2.out⟩
end Go.Proofs.Ytpljjmdkagbjpaa

namespace Go.Proofs.Ytpljjmdkagbjpaa
open Go.RowKit

theorem wp_assign_end {P : Program} {o : Oper} {a : Act} {w : World} {K : Act → World → Prop} {Q : Exit → Act → World → Prop} {x : Operand} {v : Value} (ho : o.op = .assign x) (hx : a.eval x = v) (h : K (a.put o.dst v) w) : o.wp P a w K Q := by
  unfold Oper.wp execOp
  simp only [ho, hx, Sem.run_pure]
  exact h

/-- A name as bytes. -/
def headL (d x : Int) : List Int := d % 256 :: numL x 4
theorem headL_is (d x : Int) : headL d x = [d % 256, x / 16777216 % 256, x / 65536 % 256, x / 256 % 256, x % 256] := by
  unfold headL numL
  simp [List.range, List.range.loop]
theorem headL_len (d x : Int) : (headL d x).length = 5 := by rw [headL_is]; rfl
theorem headL_bytes (d x : Int) : Bytes (headL d x) := by
  rw [headL_is]
  intro y hy
  simp only [List.mem_cons, List.not_mem_nil, or_false] at hy
  rcases hy with rfl | rfl | rfl | rfl | rfl <;> omega
abbrev nameV (d x : Int) : Value := .agg #[.int .i64 d, .int .u32 x]
end Go.Proofs.Ytpljjmdkagbjpaa

namespace Go.Proofs.Ytpljjmdkagbjpaa
open Go.RowKit

theorem app_run1 (w : World) (g : Nat) (y : Int) (hg : Blk w g (.cells #[.int .u8 y] 5)) (hy : 0 ≤ y ∧ y ≤ 255) (M : Nat) (u : Value) (p : List Int) (hp : HoldsB w M u p) (hpos : 0 < p.length) (hlen : p.length ≤ 100000) :
    ∃ v' w', (Builtin.append_ #[30, 30] 30 #[.slice (some ⟨g, 0, none⟩) 1 1, u]).run Try.prog w = .ok v' w' ∧ Below w.heap.size w w' ∧ HoldsB w' w'.heap.size v' (y :: p) := by
  obtain ⟨i0, hi, hz0, hz1, hz2⟩ := info_parts info5
  obtain ⟨ad, m, cap, rfl, hm⟩ := hp.slice
  cases ad with
  | none =>
    obtain ⟨_, _, e, hle, _, hc, _⟩ := hp
    simp only [Value.slice.injEq] at e
    have := hc e.1.symm
    omega
  | some ad =>
    obtain ⟨v', w', hrun, r1, r2⟩ := run_append_arg_grows (P := Try.prog) w 30 30 5 i0 (.int .u8 0) 1 1 Try.underlying30 hi hz0 hz1 hz2 rfl (by decide) ⟨g, 0, none⟩ 1 1 [.int .u8 y] rfl (fun j u h => by
      cases j with
      | zero =>
        have e : Value.int .u8 y = u := by simpa using h
        rw [← e]
        exact hg.cell 0
      | succ j => simp at h) ad m cap (bv p) (by rw [bv_len]; omega) hp.news (by omega) (by unfold maxLen; omega) (by omega)
    refine ⟨v', w', hrun, ⟨r2.os, r2.tape, r2.output, r2.size, fun k hk => r2.block k hk (by simp)⟩, ?_⟩
    have hb : Bytes (y :: p) := fun v hv => by
      rcases List.mem_cons.1 hv with rfl | hv
      · exact hy
      · exact hp.bytes v hv
    rw [hm, show 1 + p.length = (y :: p).length by rw [List.length_cons]; omega] at r1
    exact HoldsB.ofRow hb r1
theorem wrapU64 {x : Int} (h : 0 ≤ x ∧ x < 4294967296) : IntKind.u64.wrap x = x := by
  simp only [IntKind.wrap, IntKind.bits, IntKind.signed]
  simp
  omega
theorem exec_append32 {o : Oper} {a : Act} {w w' : World} {s x : Operand} {u v v' : Value} (ho : o.op = .call { callee := .builtin .append, args := #[s, x], argTypes := #[30, 30] })
    (hs : a.eval s = v) (hx : a.eval x = u) (hr : (Builtin.append_ #[30, 30] o.type #[v, u]).run Try.prog w = .ok v' w') : (execOp a.eval o).run Try.prog w = .ok (.value v') w' := by
  unfold execOp
  simp only [ho, resolve, invoke, builtin, Sem.run_bind, Sem.run_pure, Result.andThen_ok, List.map_toArray, List.map_cons, List.map_nil, hs, hx, hr]
set_option maxRecDepth 100000 in
set_option maxHeartbeats 2000000 in
theorem head_any (d x : Int) (w : World) (hx : 0 ≤ x ∧ x < 4294967296) :
    Calls Try.prog 17 #[nameV d x] w fun q w' => ∃ v', q = .returned v' ∧ HoldsB w' w'.heap.size v' (headL d x) ∧ Below w.heap.size w w' := by
  have HX := Kp.mk hx
  clear hx
  go_enter Try.func17, Try.ntmps17
  go_wp2_with fail
  obtain ⟨A, hA⟩ : ∃ A, A = w.heap.size := ⟨_, rfl⟩
  have HA := Kp.mk hA
  rw [← hA]
  refine wp_world (fun W => Blk W A (.cells #[.int .i64 d, .int .u32 x] 25) ∧ Below A w W) ⟨Blk.newAt _ hA, by rw [hA]; exact more (Below.refl _ _) _⟩ ?_
  rintro W ⟨h1, h4⟩
  have G1 := Kp.mk h1
  have G4 := Kp.mk h4
  clear h1 h4 hA
  refine wp_region_pred (fun w' => Blk w' A (.cells #[.int .i64 d, .int .u32 x] 25) ∧ Below A w w') [0, 1, 2, 3, 4, 5, 6, 7, 8] [9]
    (fun ι w' v => match ι with
      | 0 => v = .pointer (some ⟨A, 0, none⟩)
      | 1 => v = .int .i64 d
      | 2 => v = .int .u8 (d % 256)
      | 4 => v = .pointer (some ⟨A, 1, none⟩)
      | 5 => v = .int .u32 x
      | 6 => v = .int .u64 x
      | 3 => ∃ g, v = .slice (some ⟨g, 0, none⟩) 1 1 ∧ Blk w' g (.cells #[.int .u8 (d % 256)] 5)
      | 7 => HoldsB w' w'.heap.size v (numL x 4)
      | 8 => HoldsB w' w'.heap.size v (headL d x)
      | _ => v = .bool true)
    [[], [(0, some 3)], [(1, some 4)], [(2, some 5)], [], [(4, some 7)], [(5, some 8)], [(6, some 9)], [(3, some 6), (7, some 10)]]
    [(0, some 3), (1, some 4), (2, some 5), (3, some 6), (4, some 7), (5, some 8), (6, some 9), (7, some 10), (8, some 11)]
    (by kernel_rfl) (by kernel_rfl) (by kernel_rfl) (by kernel_rfl) (by kernel_rfl) (by kernel_rfl) (by decide) (by decide) (fun w1 w2 h hb => ⟨h.1.keep hb, h.2.trans (hb.mono (Nat.le_of_lt h.1.lt))⟩) ?_ ⟨G1.out.draw, G4.out.drew⟩ ?_ ?_
  · intro ι w1 w2 v h hb
    by_cases h3 : ι = 3
    · subst h3
      exact (by obtain ⟨g, e, hg⟩ := h; exact ⟨g, e, hg.keep hb⟩)
    by_cases h7 : ι = 7
    · subst h7
      exact (HoldsB.keep h hb).mono hb.size
    by_cases h8 : ι = 8
    · subst h8
      exact (HoldsB.keep h hb).mono hb.size
    match ι, h3, h7, h8, h with
    | 0, _, _, _, h => exact h
    | 1, _, _, _, h => exact h
    | 2, _, _, _, h => exact h
    | 3, g, _, _, h => exact absurd rfl g
    | 4, _, _, _, h => exact h
    | 5, _, _, _, h => exact h
    | 6, _, _, _, h => exact h
    | 7, _, g, _, h => exact absurd rfl g
    | 8, _, _, g, h => exact absurd rfl g
    | _ + 9, _, _, _, h => exact h
  · refine ⟨fun γ wx hS h => ?_, fun γ wx hS h => ?_, fun γ wx hS h => ?_, fun γ wx hS h => ?_, fun γ wx hS h => ?_, fun γ wx hS h => ?_, fun γ wx hS h => ?_, fun γ wx hS h => ?_, fun γ wx hS h => ?_, trivial⟩
    · refine ⟨_, rfl, Or.inl ⟨rfl, predRun_value (v := .pointer (some ⟨A, 0, none⟩)) (by simp only [putE]; first | rfl | (go_simp; done) | (go_simp; with_reducible rfl) | (go_simp; rfl)) rfl⟩⟩
    · have h0 := h
      have e0 : γ 0 = .pointer (some ⟨A, 0, none⟩) := h0
      refine ⟨_, rfl, Or.inl ⟨rfl, predRun_value (v := .int .i64 d) (by simp only [putE, e0]; have c0 := hS.1.cell 0; first | rfl | (go_simp; done) | (go_simp; with_reducible rfl) | (go_simp; rfl)) rfl⟩⟩
    · have h1 := h
      have e1 : γ 1 = .int .i64 d := h1
      refine ⟨_, rfl, Or.inl ⟨rfl, predRun_value (v := .int .u8 (d % 256)) (by simp only [putE, e1]; go_simp; exact IntKind.wrap_u8' _) rfl⟩⟩
    · have h2 := h
      have e2 : γ 2 = .int .u8 (d % 256) := h2
      refine ⟨_, rfl, Or.inl ⟨rfl, predRun_new (w' := wx.alloc (.cells #[.int .u8 (d % 256)] 5)) (v := .slice (some ⟨wx.heap.size, 0, none⟩) 1 1) (by simp only [putE, e2]; go_simp) (more (Below.refl _ _) _) ⟨_, rfl, Blk.new _ _⟩⟩⟩
    · refine ⟨_, rfl, Or.inl ⟨rfl, predRun_value (v := .pointer (some ⟨A, 1, none⟩)) (by simp only [putE]; first | rfl | (go_simp; done) | (go_simp; with_reducible rfl) | (go_simp; rfl)) rfl⟩⟩
    · have h4 := h
      have e4 : γ 4 = .pointer (some ⟨A, 1, none⟩) := h4
      refine ⟨_, rfl, Or.inl ⟨rfl, predRun_value (v := .int .u32 x) (by simp only [putE, e4]; have c1 := hS.1.cell 1; first | rfl | (go_simp; done) | (go_simp; with_reducible rfl) | (go_simp; rfl)) rfl⟩⟩
    · have h5 := h
      have e5 : γ 5 = .int .u32 x := h5
      refine ⟨_, rfl, Or.inl ⟨rfl, predRun_value (v := .int .u64 x) (by have x0 := HX.out.1; have x1 := HX.out.2; simp only [putE, e5]; go_simp; exact wrapU64 HX.out) rfl⟩⟩
    · have h6 := h
      have e6 : γ 6 = .int .u64 x := h6
      refine ⟨_, rfl, Or.inl ⟨rfl, predRun_call (f := 19) (args := #[.int .u64 x, .int .i64 4]) (by simp only [putE, e6]; go_simp) ?_⟩⟩
      exact (num_any x 4 wx (Or.inl rfl) HX.out.1 (by have := HX.out.2; omega)).mono fun e w2 ⟨v', h1, h2, h3⟩ => ⟨_, h1, h2, h3⟩
    · obtain ⟨h3, h7⟩ := h
      have p3 : ∃ g, (γ 3) = .slice (some ⟨g, 0, none⟩) 1 1 ∧ Blk wx g (.cells #[.int .u8 (d % 256)] 5) := h3
      have p7 : HoldsB wx wx.heap.size (γ 7) (numL x 4) := h7
      obtain ⟨g, e3, hg⟩ := p3
      obtain ⟨a, n, c1, e7, _⟩ := p7.slice
      rw [e7] at p7
      obtain ⟨v', w', hr, hb, hh⟩ := app_run1 wx g (d % 256) hg (by omega) _ _ _ p7 (by rw [numL_len]; omega) (by rw [numL_len]; omega)
      refine ⟨_, rfl, Or.inl ⟨rfl, predRun_new (w' := w') (v := v') (exec_append32 rfl (by simp only [putE, e3]; rfl) (by simp only [putE, e7]; rfl) hr) hb hh⟩⟩
  · intro γ w9 hS h
    have h8 : HoldsB w9 w9.heap.size (γ 8) (headL d x) := h.2.2.2.2.2.2.2.2
    have HB := Kp.mk hS.2
    have H8 := Kp.mk h8
    simp only [putE, Act.put, List.setIfInBounds_toArray, List.set_cons_zero, List.set_cons_succ]
    clear h hS h8 G1 G4
    generalize γ 8 = v8 at *
    refine wpOps_step rfl rfl ?_
    refine wp_assign_end rfl rfl ?_
    refine wpOps_done ?_
    go_wp2_with fail
    go_ret
    exact ⟨_, rfl, H8.out, by rw [← HA.out]; exact HB.out⟩
end Go.Proofs.Ytpljjmdkagbjpaa
