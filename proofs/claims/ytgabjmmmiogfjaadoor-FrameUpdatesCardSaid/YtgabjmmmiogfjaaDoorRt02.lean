/-
  A third law of this seat's own on regions that draw their order: of each operation it is known what its result is like (a condition that stays, whatever is made besides), not which value it is: so calls may hand back memory that they made, whose place hangs on the order. The end is walked one behind the other.
  As FlowP, where some pure operations (ps) are not waited for by the end: they may come up behind it; they are taken as soon as they are ready.
  Bytes in memory, and what a call leaves as it was: the words in which the contracts of this seat are said. Nothing of the program is named here.
-/
import Derived.Test.YtgabjmmmiogfjaaDoorRt01
import Derived.Laws.Rows
import Derived.Test.YtgabjmmmiogfjaaDoorProg
import Derived.WalkKit
import Derived.WalkSpells
import Derived.WalkLawsBesides
import Derived.BigQuiet
import Derived.Deep.QuietTactic
import Derived.Outline
import Derived.LoopTactic
import Derived.ProofKit
import Derived.Deep.Slices
import Derived.Deep.Fields
import Derived.Deep.Strs
import Derived.Laws.AppendOwn
import Derived.Laws.OwnMore
import Derived.Laws.AppendOwnNone
import Derived.Laws.CopyOwn
import Derived.Laws.BytesArg
import Derived.Laws.Tables
import Derived.Lib.Hide
namespace Go.Proofs.YtgabjmmmiogfjaaDoor
open Go.RowKit

section
variable {P : Program} {ops : Array Oper} {Q : Exit → Act → World → Prop} {S : World → Prop}

/-- What a run, begun in world w, comes to: a value that meets V; all that was in memory is as it was. -/
def PredRun (P : Program) (w : World) (V : World → Value → Prop) : Result Next → Prop
  | .ok (.value u) w' => V w' u ∧ Below w.heap.size w w'
  | .ok (.enter f args) w' => w' = w ∧ Calls P f args w (fun e w'' => ∃ v, e = .returned v ∧ V w'' v ∧ Below w.heap.size w w'')
  | _ => False

def PredOp (P : Program) (ops : Array Oper) (o : Oper) (V : World → Value → Prop) (a : Act) (w : World) : Prop :=
  (Region.wanted o (yielded ops a.tmps) = true ∧ PredRun P w V ((execOp a.eval o).run P w)) ∨ (Region.wanted o (yielded ops a.tmps) = false ∧ V w undef)

theorem PredOp.of_same {o : Oper} {V : World → Value → Prop} {a a' : Act} {w : World} (hy : PredOp P ops o V a w) (he : execOp a'.eval o = execOp a.eval o)
    (hw : Region.wanted o (yielded ops a'.tmps) = Region.wanted o (yielded ops a.tmps)) : PredOp P ops o V a' w := by
  unfold PredOp at *
  rw [he, hw]
  exact hy

theorem PredOp.wpOp {i : Nat} {o : Oper} {V : World → Value → Prop} {a : Act} (hi : ops[i]? = some o) {K : Act → World → Prop} {w : World} (hy : PredOp P ops o V a w)
    (h : ∀ v w', V w' v → Below w.heap.size w w' → K (a.put o.dst v) w') : wpOp P ops Q i K a w := by
  unfold Go.wpOp
  simp only [hi]
  rcases hy with ⟨hw, hg⟩ | ⟨hw, hv⟩
  · simp only [hw, if_true, Oper.wp]
    generalize (execOp a.eval o).run P w = r at hg
    refine .inl ?_
    cases r with
    | ok n w' =>
      cases n with
      | value u => exact h _ _ hg.1 hg.2
      | enter f args =>
        obtain ⟨rfl, hg⟩ := hg
        refine Calls.mono hg fun e w'' he => ?_
        obtain ⟨v, rfl, hv, hb⟩ := he
        exact h _ _ hv hb
      | _ => exact hg.elim
    | halt x w' => exact hg.elim
  · simp only [hw, Bool.false_eq_true, if_false]
    exact h _ _ hv (Below.refl _ _)

/-- The values that have come, in their slots. -/
def putD (ops : Array Oper) (γ : Nat → Value) : List Nat → Act → Act
  | [], a => a
  | i :: r, a => putD ops γ r (a.put (dstOf ops i) (γ i))
theorem putD_append (γ : Nat → Value) : ∀ (l m : List Nat) (a : Act), putD ops γ (l ++ m) a = putD ops γ m (putD ops γ l a)
  | [], _, _ => rfl
  | i :: r, m, a => putD_append γ r m _
theorem putD_congr {γ γ' : Nat → Value} : ∀ (l : List Nat) (a : Act), (∀ i ∈ l, γ i = γ' i) → putD ops γ l a = putD ops γ' l a
  | [], _, _ => rfl
  | i :: r, a, h => by
    unfold putD
    rw [h i (by simp)]
    exact putD_congr r _ fun j hj => h j (List.mem_cons_of_mem _ hj)
theorem putD_perm (γ : Nat → Value) {l m : List Nat} (hp : l.Perm m) : (∀ x ∈ l, ∀ y ∈ l, x ≠ y → ∀ t, dstOf ops x = some t → dstOf ops y ≠ some t) → ∀ a : Act, putD ops γ l a = putD ops γ m a := by
  induction hp with
  | nil => exact fun _ _ => rfl
  | cons x _ ih => exact fun h a => ih (fun y hy z hz => h y (List.mem_cons_of_mem _ hy) z (List.mem_cons_of_mem _ hz)) _
  | swap x y l =>
    intro h a
    unfold putD
    unfold putD
    by_cases hxy : x = y
    · subst hxy; rfl
    · rw [put_same_apart (γ y) (γ x) (h y (by simp) x (by simp) (Ne.symm hxy))]
  | trans h1 _ ih1 ih2 => exact fun h a => (ih1 h a).trans (ih2 (fun x hx y hy => h x (h1.mem_iff.2 hx) y (h1.mem_iff.2 hy)) a)
theorem same_putD (γ : Nat → Value) (o : Oper) (hs : ∀ cs b, o.op ≠ .select cs b) : ∀ (l : List Nat) (a : Act), (∀ i ∈ l, ∀ t, dstOf ops i = some t → t ∉ o.looksAt ops) →
    execOp (putD ops γ l a).eval o = execOp a.eval o ∧ Region.wanted o (yielded ops (putD ops γ l a).tmps) = Region.wanted o (yielded ops a.tmps)
  | [], _, _ => ⟨rfl, rfl⟩
  | i :: r, a, h => by
    obtain ⟨h1, h2⟩ := same_putD γ o hs r (a.put (dstOf ops i) (γ i)) fun j hj => h j (List.mem_cons_of_mem _ hj)
    unfold putD
    exact ⟨h1.trans (execOp_put o hs a _ _ (h i (by simp))), h2.trans (wanted_put o a _ _ (h i (by simp)))⟩

/-- For which of vs number i waits. -/
def depsOf (ops : Array Oper) (vs : List Nat) (i : Nat) : List Nat := vs.filter fun x => match ops[i]? with | some o => o.after.any fun e => Region.binds .any e && e.on == x | none => false
theorem mem_depsOf {vs : List Nat} {i x : Nat} {o : Oper} (ho : ops[i]? = some o) : x ∈ depsOf ops vs i ↔ x ∈ vs ∧ ∃ e ∈ o.after, Region.binds .any e = true ∧ e.on = x := by
  unfold depsOf
  rw [List.mem_filter, ho]
  simp only [Array.any_eq_true', Bool.and_eq_true, beq_iff_eq]
/-- The slots that are written are different ones. -/
def dstsOk (ops : Array Oper) (vs : List Nat) : Bool := vs.all fun x => vs.all fun y => x == y || match dstOf ops x, dstOf ops y with | some s, some t => s != t | _, _ => true
theorem dstsOk_spec {vs : List Nat} (h : dstsOk ops vs = true) : ∀ x ∈ vs, ∀ y ∈ vs, x ≠ y → ∀ t, dstOf ops x = some t → dstOf ops y ≠ some t := by
  intro x hx y hy hne t ht ht2
  unfold dstsOk at h
  simp only [List.all_eq_true, Bool.or_eq_true, beq_iff_eq] at h
  rcases h x hx y hy with h | h
  · exact hne h
  · rw [ht, ht2] at h
    simp at h

theorem wpAny_pred (hmono : Stays S) (hs : ∀ (j : Nat) (o : Oper) cs b, ops[j]? = some o → o.op ≠ .select cs b) {vs bs : List Nat} (hok : partsOk ops vs [] bs = true) (hdst : dstsOk ops vs = true) (hbnd : bs.Nodup)
    {Φ : Nat → World → Value → Prop} (hΦ : ∀ i w w' v, Φ i w v → Below w.heap.size w w' → Φ i w' v) {a0 : Act}
    (need : ∀ i ∈ vs, ∀ (γ : Nat → Value) (w : World), S w → (∀ d ∈ depsOf ops vs i, Φ d w (γ d)) → ∃ o, ops[i]? = some o ∧ PredOp P ops o (Φ i) (putD ops γ (depsOf ops vs i) a0) w)
    (hD : ∀ (γ : Nat → Value) (w : World), S w → (∀ i ∈ vs, Φ i w (γ i)) → wpOps P ops Q bs (putD ops γ vs a0) w) :
    ∀ (fuel : Nat) (listed : Array Bool) (γ : Nat → Value) (L : List Nat) (w : World), listed.size = ops.size → L.Nodup → (∀ i ∈ L, i ∈ vs) → (∀ i ∈ vs, i ∈ L ↔ listed.getD i false = true) → (∀ i ∈ bs, listed.getD i false = false) →
      Closed ops listed → (vs.filter fun i => !L.contains i).length + bs.length ≤ fuel → S w → (∀ i ∈ L, Φ i w (γ i)) → wpAny P .any ops Q fuel listed (putD ops γ L a0) w := by
  obtain ⟨hall, hvs, _, hbs, hlt, _, hV, _, hB⟩ := partsOk_spec hok
  have hnd : vs.Nodup := hlt.imp fun h => by omega
  have hdd := dstsOk_spec hdst
  -- where all of vs have come up
  have hend : ∀ (fuel : Nat) (listed : Array Bool) (γ : Nat → Value) (L : List Nat) (w : World), listed.size = ops.size → L.Nodup → (∀ i ∈ L, i ∈ vs) → (∀ i ∈ vs, i ∈ L ↔ listed.getD i false = true) → (∀ i ∈ bs, listed.getD i false = false) →
      bs.length ≤ fuel → S w → (∀ i ∈ L, Φ i w (γ i)) → (∀ i ∈ vs, i ∈ L) → wpAny P .any ops Q fuel listed (putD ops γ L a0) w := by
    intro fuel listed γ L w hsz hLn hLv hl hbl hf hS hg hfull
    have hp : L.Perm vs := (List.perm_ext_iff_of_nodup hLn hnd).2 fun x => ⟨hLv x, hfull x⟩
    rw [putD_perm γ hp (fun x hx y hy => hdd x (hLv x hx) y (hLv y hy)) a0]
    refine wpAny_end hok bs 0 fuel listed _ w rfl hsz hf hbnd (fun i hi => ?_) (hD γ w hS fun i hi => hg i (hfull i hi))
    rcases hall i hi with h | h | h
    · exact ⟨fun _ hib => (hvs i h).2.2 hib, fun _ => (hl i h).1 (hfull i h)⟩
    · cases h
    · exact ⟨fun ht => (by rw [hbl i h] at ht; cases ht), fun hn => absurd h hn⟩
  intro fuel
  induction fuel with
  | zero =>
    intro listed γ L w hsz hLn hLv hl hbl _ hf hS hg
    have h0 : (vs.filter fun i => !L.contains i) = [] := List.length_eq_zero_iff.1 (by omega)
    refine hend 0 listed γ L w hsz hLn hLv hl hbl (by omega) hS hg fun i hi => ?_
    have := List.filter_eq_nil_iff.1 h0 i hi
    simpa using this
  | succ fuel ih =>
    intro listed γ L w hsz hLn hLv hl hbl hcl hf hS hg
    by_cases hfull : ∀ i ∈ vs, i ∈ L
    · exact hend _ listed γ L w hsz hLn hLv hl hbl (by omega) hS hg hfull
    refine ⟨fun hr => ?_, fun i hi => ?_⟩
    · -- something is ready
      exfalso
      apply hfull
      have : ∀ n i, i ≤ n → i ∈ vs → i ∈ L := by
        intro n
        induction n with
        | zero =>
          intro i hin hi
          false_or_by_contra
          rename_i hiL
          have hio := Array.getElem?_eq_getElem (hvs i hi).1
          have hm : i ∈ Region.ready .any ops listed := mem_ready.2 ⟨by rw [getD_flip (by rw [hsz]; exact (hvs i hi).1)]; have := fun h => hiL ((hl i hi).2 h); simpa using this, _, hio, fun e he hb => by
            have := ((hV i hi _ hio).1 e he hb).2
            omega⟩
          rw [hr] at hm
          cases hm
        | succ n ihn =>
          intro i hin hi
          false_or_by_contra
          rename_i hiL
          have hio := Array.getElem?_eq_getElem (hvs i hi).1
          have hm : i ∈ Region.ready .any ops listed := mem_ready.2 ⟨by rw [getD_flip (by rw [hsz]; exact (hvs i hi).1)]; have := fun h => hiL ((hl i hi).2 h); simpa using this, _, hio, fun e he hb => by
            obtain ⟨h1, h2⟩ := (hV i hi _ hio).1 e he hb
            have := (hl e.on h1).1 (ihn e.on (by omega) h1)
            exact this⟩
          rw [hr] at hm
          cases hm
      exact fun i hi => this i i (Nat.le_refl _) hi
    · obtain ⟨h0, oi, hoi, hdeps⟩ := mem_ready.1 hi
      have hin : i < ops.size := (Array.getElem?_eq_some_iff.1 hoi).1
      have h0' : listed.getD i false = false := by rw [← getD_flip (by rw [hsz]; exact hin)]; exact h0
      rcases hall i hin with hiv | hiv | hib
      · have hiL : i ∉ L := fun h => by rw [(hl i hiv).1 h] at h0'; cases h0'
        have hdL : ∀ d ∈ depsOf ops vs i, d ∈ L := fun d hd => by
          obtain ⟨hdv, e, he, hb, heq⟩ := (mem_depsOf hoi).1 hd
          have := hdeps e he hb
          rw [heq] at this
          exact (hl d hdv).2 this
        obtain ⟨o, ho, hop⟩ := need i hiv γ w hS fun d hd => hg d (hdL d hd)
        rw [hoi] at ho
        cases ho
        -- what has come up besides does not matter
        have hp : L.Perm (depsOf ops vs i ++ L.filter fun x => !(depsOf ops vs i).contains x) := by
          have h1 := (List.filter_append_perm (fun x => (depsOf ops vs i).contains x) L).symm
          refine h1.trans (List.Perm.append_right _ ?_)
          refine (List.perm_ext_iff_of_nodup (hLn.filter _) (hnd.filter _)).2 fun x => ?_
          rw [List.mem_filter]
          simp only [List.contains_eq_mem, decide_eq_true_eq]
          exact ⟨fun h => h.2, fun h => ⟨hdL x h, h⟩⟩
        have hput : putD ops γ L a0 = putD ops γ (L.filter fun x => !(depsOf ops vs i).contains x) (putD ops γ (depsOf ops vs i) a0) := by
          rw [putD_perm γ hp (fun x hx y hy => hdd x (hLv x hx) y (hLv y hy)) a0, putD_append]
        have hsame := same_putD (ops := ops) γ oi (fun cs b => hs i oi cs b hoi) (L.filter fun x => !(depsOf ops vs i).contains x) (putD ops γ (depsOf ops vs i) a0) fun x hx t ht => by
          obtain ⟨hxL, hxd⟩ := List.mem_filter.1 hx
          have hxv := hLv x hxL
          have hxo := Array.getElem?_eq_getElem (hvs x hxv).1
          have hxd' : x ∉ depsOf ops vs i := by simpa using hxd
          have hdx : (ops[x]'(hvs x hxv).1).dst = some t := by
            unfold dstOf at ht
            rw [hxo] at ht
            exact ht
          have hno : ∀ e ∈ oi.after, Region.binds .any e = true → e.on ≠ x := fun e he hb heq => hxd' ((mem_depsOf hoi).2 ⟨hxv, e, he, hb, heq⟩)
          have hne : x ≠ i := fun e => hiL (e ▸ hxL)
          rcases Nat.lt_or_gt_of_ne hne with hxi | hxi
          · exact (Oper.apart_spec ((hV i hiv oi hoi).2.1 x hxv hxi _ hxo hno)).1 t hdx
          · have hap := (hV x hxv _ hxo).2.1 i hiv hxi oi hoi fun e he hb heq => by
              have := hcl x _ e ((hl x hxv).1 hxL) hxo he hb
              rw [heq, h0'] at this
              cases this
            exact (Oper.apart_spec hap).2.2 t hdx
        rw [hput]
        refine (hop.of_same hsame.1 hsame.2).wpOp hoi fun v w' hv hb => ?_
        rw [← hput]
        have hγ : (putD ops γ L a0).put oi.dst v = putD ops (fun k => if k = i then v else γ k) (L ++ [i]) a0 := by
          rw [putD_append, putD_congr (γ := fun k => if k = i then v else γ k) (γ' := γ) L a0 fun k hk => (if_neg (fun e : k = i => hiL (e ▸ hk)) : (if k = i then v else γ k) = γ k)]
          show (putD ops γ L a0).put oi.dst v = (putD ops γ L a0).put (dstOf ops i) (if i = i then v else γ i)
          rw [if_pos rfl]
          unfold dstOf
          rw [hoi]
          rfl
        rw [hγ]
        refine ih _ _ _ _ (by simpa using hsz) ?_ ?_ ?_ ?_ (closed_set hcl hi) ?_ (hmono _ _ hS hb) ?_
        · rw [List.nodup_append]
          exact ⟨hLn, by simp, fun x hx y hy e => by simp at hy; exact hiL (hy ▸ e ▸ hx)⟩
        · intro x hx
          rcases List.mem_append.1 hx with h | h
          · exact hLv x h
          · simp at h; exact h ▸ hiv
        · intro x hx
          rw [listed_set (by rw [hsz]; exact hin), List.mem_append]
          by_cases hxi : x = i
          · subst hxi; simp
          · rw [if_neg hxi, ← hl x hx]; simp [hxi]
        · intro x hx
          have hxi : x ≠ i := fun e => (hvs i hiv).2.2 (e ▸ hx)
          rw [listed_set (by rw [hsz]; exact hin), if_neg hxi]
          exact hbl x hx
        · have hlen : (vs.filter fun x => !(L ++ [i]).contains x).length < (vs.filter fun x => !L.contains x).length := by
            have hsub : (vs.filter fun x => !(L ++ [i]).contains x) = (vs.filter fun x => !L.contains x).filter fun x => x != i := by
              rw [List.filter_filter]
              congr 1
              funext x
              simp only [List.contains_eq_mem, List.mem_append, List.mem_singleton]
              by_cases h1 : x ∈ L <;> by_cases h2 : x = i <;> simp [h1, h2]
            rw [hsub]
            refine List.length_filter_lt_length_iff_exists.2 ⟨i, List.mem_filter.2 ⟨hiv, by simpa using hiL⟩, by simp⟩
          omega
        · intro x hx
          rcases List.mem_append.1 hx with h | h
          · have hxi : x ≠ i := fun e => hiL (e ▸ h)
            show Φ x w' (if x = i then v else γ x)
            rw [if_neg hxi]
            exact hΦ x w w' _ (hg x h) hb
          · simp at h
            subst h
            show Φ x w' (if x = x then v else γ x)
            rw [if_pos rfl]
            exact hv
      · cases hiv
      · exfalso
        apply hfull
        intro x hx
        obtain ⟨k, hk⟩ := List.getElem?_of_mem hib
        have hw := (hB k i hk oi hoi).2 x (.inl hx)
        exact (hl x hx).2 (waits_listed hcl ops.size i x oi hoi hdeps hw)

/-- The values that have come, in the slots that are named. -/
def putE (γ : Nat → Value) : List (Nat × Option Tmp) → Act → Act
  | [], a => a
  | p :: r, a => putE γ r (a.put p.2 (γ p.1))
theorem putE_eq (γ : Nat → Value) : ∀ (l : List Nat) (a : Act), putE γ (l.map fun d => (d, dstOf ops d)) a = putD ops γ l a
  | [], _ => rfl
  | _ :: r, _ => putE_eq γ r _
/-- All that is known of these values. -/
def AllE (Φ : Nat → World → Value → Prop) (γ : Nat → Value) (w : World) : List (Nat × Option Tmp) → Prop
  | [] => True
  | [p] => Φ p.1 w (γ p.1)
  | p :: r => Φ p.1 w (γ p.1) ∧ AllE Φ γ w r
theorem allE_eq {Φ : Nat → World → Value → Prop} {γ : Nat → Value} {w : World} : ∀ l : List Nat, (∀ d ∈ l, Φ d w (γ d)) → AllE Φ γ w (l.map fun d => (d, dstOf ops d))
  | [], _ => trivial
  | [d], h => h d (by simp)
  | d :: e :: r, h => ⟨h d (by simp), allE_eq (e :: r) fun x hx => h x (List.mem_cons_of_mem _ hx)⟩
/-- What is to be shown of the operations, one by one: each with what it waits for. -/
def NeedE (P : Program) (ops : Array Oper) (S : World → Prop) (Φ : Nat → World → Value → Prop) (a0 : Act) : List Nat → List (List (Nat × Option Tmp)) → Prop
  | i :: r, d :: ds => (∀ (γ : Nat → Value) (w : World), S w → AllE Φ γ w d → ∃ o, ops[i]? = some o ∧ PredOp P ops o (Φ i) (putE γ d a0) w) ∧ NeedE P ops S Φ a0 r ds
  | _, _ => True
theorem needE_at {vs : List Nat} {Φ : Nat → World → Value → Prop} {a0 : Act} : ∀ l : List Nat, NeedE P ops S Φ a0 l (l.map fun i => (depsOf ops vs i).map fun d => (d, dstOf ops d)) → ∀ i ∈ l, ∀ (γ : Nat → Value) (w : World), S w → (∀ d ∈ depsOf ops vs i, Φ d w (γ d)) → ∃ o, ops[i]? = some o ∧ PredOp P ops o (Φ i) (putD ops γ (depsOf ops vs i) a0) w
  | [], _, _, hi => by cases hi
  | j :: r, h, i, hi => by
    rcases List.mem_cons.1 hi with rfl | hi
    · intro γ w hS hd
      obtain ⟨o, ho, hp⟩ := h.1 γ w hS (allE_eq _ hd)
      rw [putE_eq] at hp
      exact ⟨o, ho, hp⟩
    · exact needE_at r h.2 i hi

/-- As partsOk, without new variables; the end waits for all by edges of its own (so it is seen without going through all that it waits for). -/
def partsOkD (ops : Array Oper) (vs bs : List Nat) : Bool :=
  ((List.range ops.size).all fun i => vs.contains i || ([] : List Nat).contains i || bs.contains i) &&
  (vs.all fun i => decide (i < ops.size) && !([] : List Nat).contains i && !bs.contains i) && (([] : List Nat).all fun i => decide (i < ops.size) && !bs.contains i) && (bs.all fun i => decide (i < ops.size)) &&
  decide (vs.Pairwise (· < ·)) && decide (([] : List Nat).Nodup) &&
  (vs.all fun j => match ops[j]? with
    | some oj => (oj.after.all fun e => !Region.binds .any e || (vs.contains e.on && decide (e.on < j))) &&
        (vs.all fun i => !decide (i < j) || (oj.after.any fun e => Region.binds .any e && e.on == i) || (match ops[i]? with | some oi => oi.apart ops oj | none => false)) &&
        (([] : List Nat).all fun i => match ops[i]? with | some oi => oi.apart ops oj && oj.apart ops oi | none => false)
    | none => false) &&
  (([] : List Nat).all fun j => match ops[j]? with
    | some oj => (oj.after.all fun e => !Region.binds .any e) && oj.guard.isNone && (([] : List Nat).all fun i => i == j || (match ops[i]? with | some oi => oi.apart ops oj | none => false))
    | none => false) &&
  (bs.zipIdx.all fun (j, k) => match ops[j]? with
    | some oj => (oj.after.all fun e => !Region.binds .any e || vs.contains e.on || ([] : List Nat).contains e.on || (bs.take k).contains e.on) &&
        ((vs ++ [] ++ bs.take k).all fun x => oj.after.any fun e => Region.binds .any e && e.on == x)
    | none => false)
theorem partsOk_of_direct {vs bs : List Nat} (h : partsOkD ops vs bs = true) : partsOk ops vs [] bs = true := by
  unfold partsOkD at h
  unfold partsOk
  rw [Bool.and_eq_true] at h ⊢
  refine ⟨h.1, ?_⟩
  have h2 := h.2
  rw [List.all_eq_true] at h2 ⊢
  intro q hq
  have h3 := h2 q hq
  obtain ⟨j, k⟩ := q
  simp only at h3 ⊢
  cases ho : ops[j]? with
  | none => rw [ho] at h3; exact h3
  | some oj =>
    rw [ho] at h3
    simp only [Bool.and_eq_true] at h3 ⊢
    refine ⟨h3.1, ?_⟩
    have h4 := h3.2
    rw [List.all_eq_true] at h4 ⊢
    intro x hx
    have h5 := h4 x hx
    have hsz : ops.size = (ops.size - 1) + 1 := by
      have := (Array.getElem?_eq_some_iff.1 ho).1
      omega
    rw [hsz]
    unfold waits
    rw [ho]
    simp only [Array.any_eq_true', Bool.and_eq_true, Bool.or_eq_true] at h5 ⊢
    obtain ⟨e, he, hb, hx⟩ := h5
    exact ⟨e, he, hb, .inl hx⟩

/-- THE LAW. -/
theorem wp_region_pred {id : Nat} {a : Act} {w : World} (S : World → Prop) (vs bs : List Nat) (Φ : Nat → World → Value → Prop) (dl : List (List (Nat × Option Tmp))) (al : List (Nat × Option Tmp)) (hm : P.follows .mixedOrders = true) (hs : Region.noSelect ops = true) (hok : partsOkD ops vs bs = true) (hdst : dstsOk ops vs = true)
    (hdl : (vs.map fun i => (depsOf ops vs i).map fun d => (d, dstOf ops d)) = dl) (hal : (vs.map fun d => (d, dstOf ops d)) = al) (hbnd : bs.Nodup) (hlen : vs.length + bs.length ≤ ops.size) (hmono : Stays S) (hΦ : ∀ i w w' v, Φ i w v → Below w.heap.size w w' → Φ i w' v) (hS : S w.drew)
    (need : NeedE P ops S Φ a vs dl)
    (hD : ∀ (γ : Nat → Value) (w : World), S w → AllE Φ γ w al → wpOps P ops Q bs (putE γ al a) w) : (Code.region id ops true).wp P Q a w := by
  have hl0 : ∀ i, (Array.replicate ops.size false).getD i false = false := fun i => by
    by_cases hi : i < ops.size <;> simp [hi]
  subst hdl hal
  refine wp_region_any hm ?_
  exact wpAny_pred (Q := Q) hmono (Region.noSelect_spec hs) (partsOk_of_direct hok) hdst hbnd hΦ (fun i hi γ wx hSx h => needE_at vs need i hi γ wx hSx h) (fun γ wx hSx h => by rw [← putE_eq]; exact hD γ wx hSx (allE_eq _ h))
    ops.size (Array.replicate ops.size false) (fun _ => undef) [] w.drew (by simp) (by simp) (fun i hi => by cases hi) (fun i _ => by simp [hl0]) (fun i _ => hl0 i)
    (fun i o e hi => by rw [hl0] at hi; cases hi) (Nat.le_trans (Nat.add_le_add_right (List.length_filter_le _ _) _) hlen) hS (fun i hi => by cases hi)
theorem predRun_value {w : World} {V : World → Value → Prop} {r : Result Next} {v : Value} (h : r = .ok (.value v) w) (hv : V w v) : PredRun P w V r := by
  rw [h]
  exact ⟨hv, Below.refl _ _⟩
theorem predRun_new {w w' : World} {V : World → Value → Prop} {r : Result Next} {v : Value} (h : r = .ok (.value v) w') (hb : Below w.heap.size w w') (hv : V w' v) : PredRun P w V r := by
  rw [h]
  exact ⟨hv, hb⟩
theorem predRun_call {w : World} {V : World → Value → Prop} {r : Result Next} {f : FuncId} {args : Array Value} (h : r = .ok (.enter f args) w) (hc : Calls P f args w (fun e w'' => ∃ v, e = .returned v ∧ V w'' v ∧ Below w.heap.size w w'')) : PredRun P w V r := by
  rw [h]
  exact ⟨rfl, hc⟩
theorem exec_load_blk {o : Oper} {a : Act} {w : World} (ty : TypeId) (x : Operand) (ho : o.op = .load ty x)
    (g : Nat) (hx : a.eval x = .pointer (some ⟨g, 0, none⟩)) (t : TypeId) (cs : Array Value) (fr : Nat × Nat) (d : TypeDesc) (hg : w.heap[g]? = some (.cells cs t fr))
    (hu : P.underlying ty = some d) (hd : (match d with | .struct _ | .array _ _ => true | _ => false) = true) (hi : (P.info? ty).map (·.size) = some cs.size) :
    (execOp a.eval o).run P w = .ok (.value (.agg cs)) w := by
  unfold execOp
  simp only [ho, hx, Instr.loadAt, Instr.sureAddr, Sem.run_bind, Sem.run_pure, Result.andThen_ok, run_loadVar_row w g t ty cs fr d hg hu hd hi]
end
end Go.Proofs.YtgabjmmmiogfjaaDoor

namespace Go.Proofs.YtgabjmmmiogfjaaDoor
open Go.RowKit

section
variable {P : Program} {ops : Array Oper} {Q : Exit → Act → World → Prop} {S : World → Prop}

/-- oj waits for number x by an edge of its own. -/
def direct (oj : Oper) (x : Nat) : Bool := oj.after.any fun e => Region.binds .any e && e.on == x
theorem direct_spec {oj : Oper} {x : Nat} : direct oj x = true ↔ ∃ e ∈ oj.after, Region.binds .any e = true ∧ e.on = x := by
  unfold direct
  simp only [Array.any_eq_true', Bool.and_eq_true, beq_iff_eq]
def vsOk (ops : Array Oper) (vs : List Nat) (j : Nat) : Bool := match ops[j]? with
  | some oj => (oj.after.all fun e => !Region.binds .any e || (vs.contains e.on && decide (e.on < j))) &&
      (vs.all fun i => !decide (i < j) || direct oj i || (match ops[i]? with | some oi => oi.apart ops oj | none => false))
  | none => false
def bsOk (ops : Array Oper) (vs ps bs : List Nat) (j k : Nat) : Bool := match ops[j]? with
  | some oj => (oj.after.all fun e => !Region.binds .any e || vs.contains e.on || (bs.take k).contains e.on) && ((bs.take k).all fun x => direct oj x) &&
      (vs.all fun x => direct oj x || (ps.contains x && (depsOf ops vs x).all fun d => direct oj d))
  | none => false
def freeOk (ops : Array Oper) (i : Nat) : Bool := (List.range ops.size).all fun j => j == i || match ops[i]?, ops[j]? with | some oi, some oj => direct oj i || direct oi j || oi.apart ops oj | _, _ => false
def partsOkQ (ops : Array Oper) (vs ps bs : List Nat) : Bool :=
  ((List.range ops.size).all fun i => vs.contains i || bs.contains i) && (vs.all fun i => decide (i < ops.size) && !bs.contains i) && (bs.all fun i => decide (i < ops.size)) && decide (vs.Pairwise (· < ·)) && (ps.all fun i => vs.contains i) &&
  (vs.all fun j => vsOk ops vs j) && (bs.zipIdx.all fun q => bsOk ops vs ps bs q.1 q.2) && (ps.all fun i => freeOk ops i)
structure PartsQ (ops : Array Oper) (vs ps bs : List Nat) : Prop where
  all : ∀ i, i < ops.size → i ∈ vs ∨ i ∈ bs
  v : ∀ i ∈ vs, i < ops.size ∧ i ∉ bs
  b : ∀ i ∈ bs, i < ops.size
  lt : vs.Pairwise (· < ·)
  p : ∀ i ∈ ps, i ∈ vs
  vd : ∀ j ∈ vs, ∀ oj, ops[j]? = some oj → (∀ e ∈ oj.after, Region.binds .any e = true → e.on ∈ vs ∧ e.on < j) ∧ (∀ i ∈ vs, i < j → ∀ oi, ops[i]? = some oi → (∀ e ∈ oj.after, Region.binds .any e = true → e.on ≠ i) → oi.apart ops oj = true)
  bd : ∀ (k j : Nat), bs[k]? = some j → ∀ oj, ops[j]? = some oj → (∀ e ∈ oj.after, Region.binds .any e = true → e.on ∈ vs ∨ e.on ∈ bs.take k) ∧ (∀ x ∈ bs.take k, direct oj x = true) ∧ (∀ x ∈ vs, direct oj x = true ∨ (x ∈ ps ∧ ∀ d ∈ depsOf ops vs x, direct oj d = true))
  free : ∀ i ∈ ps, ∀ oi, ops[i]? = some oi → ∀ j oj, ops[j]? = some oj → j ≠ i → (∀ e ∈ oi.after, Region.binds .any e = true → e.on ≠ j) → (∀ e ∈ oj.after, Region.binds .any e = true → e.on ≠ i) → oi.apart ops oj = true
theorem partsQ_of {vs ps bs : List Nat} (h : partsOkQ ops vs ps bs = true) : PartsQ ops vs ps bs := by
  unfold partsOkQ at h
  simp only [Bool.and_eq_true, List.all_eq_true, decide_eq_true_eq, List.mem_range, Bool.or_eq_true, Bool.not_eq_true', List.contains_eq_mem, decide_eq_false_iff_not] at h
  obtain ⟨⟨⟨⟨⟨⟨⟨h1, h2⟩, h3⟩, h4⟩, h5⟩, h6⟩, h7⟩, h8⟩ := h
  refine ⟨h1, h2, h3, h4, h5, fun j hj oj hoj => ?_, fun k j hk oj hoj => ?_, fun i hi oi hoi j oj hoj hne hnj hno => ?_⟩
  · have h := h6 j hj
    unfold vsOk at h
    rw [hoj] at h
    simp only [Bool.and_eq_true, Array.all_eq_true_iff_forall_mem, List.all_eq_true, Bool.or_eq_true, Bool.not_eq_true', decide_eq_true_eq, decide_eq_false_iff_not, List.contains_eq_mem] at h
    refine ⟨fun e he hb => ?_, fun i hi hij oi hoi hno => ?_⟩
    · rcases h.1 e he with g | g
      · rw [hb] at g; cases g
      · exact g
    · rcases h.2 i hi with (g | g) | g
      · exact absurd hij g
      · obtain ⟨e, he, hb, heq⟩ := direct_spec.1 g
        exact absurd heq (hno e he hb)
      · rw [hoi] at g; exact g
  · have hm : (j, k) ∈ bs.zipIdx := by rw [List.mem_zipIdx_iff_getElem?]; exact hk
    have h := h7 _ hm
    unfold bsOk at h
    simp only [hoj, Bool.and_eq_true, Array.all_eq_true_iff_forall_mem, List.all_eq_true, Bool.or_eq_true, Bool.not_eq_true', decide_eq_true_eq, List.contains_eq_mem] at h
    refine ⟨fun e he hb => ?_, h.1.2, h.2⟩
    rcases h.1.1 e he with (g | g) | g
    · rw [hb] at g; cases g
    · exact .inl g
    · exact .inr g
  · have h := h8 i hi
    unfold freeOk at h
    simp only [List.all_eq_true, List.mem_range, Bool.or_eq_true, beq_iff_eq] at h
    have g := h j (Array.getElem?_eq_some_iff.1 hoj).1
    rw [hoi, hoj] at g
    rcases g with g | g
    · exact absurd g hne
    · simp only [Bool.or_eq_true] at g
      rcases g with (g | g) | g
      · obtain ⟨e, he, hb, heq⟩ := direct_spec.1 g
        exact absurd heq (hno e he hb)
      · obtain ⟨e, he, hb, heq⟩ := direct_spec.1 g
        exact absurd heq (hnj e he hb)
      · exact g

/-- The end: one behind the other. -/
theorem wpAny_endQ {vs ps bs : List Nat} (hok : PartsQ ops vs ps bs) : ∀ (rest : List Nat) (k : Nat) (fuel : Nat) (listed : Array Bool) (a : Act) (w : World),
    bs.drop k = rest → listed.size = ops.size → rest.length ≤ fuel → bs.Nodup → (∀ i, i < ops.size → (listed.getD i false = true ↔ i ∉ rest)) →
    wpOps P ops Q rest a w → wpAny P .any ops Q fuel listed a w := by
  intro rest
  induction rest with
  | nil =>
    intro k fuel listed a w hd hsz hf hbnd hl h
    have hr : Region.ready .any ops listed = [] := by
      rw [List.eq_nil_iff_forall_not_mem]
      intro i hi
      obtain ⟨h0, o, ho, _⟩ := mem_ready.1 hi
      have hin := (Array.getElem?_eq_some_iff.1 ho).1
      have := (hl i hin).2 (by simp)
      rw [getD_flip (by omega)] at h0
      rw [h0] at this
      cases this
    cases fuel with
    | zero => exact ⟨hr, h⟩
    | succ fuel => exact ⟨fun _ => h, by rw [hr]; simp⟩
  | cons j rest ih =>
    intro k fuel listed a w hd hsz hf hbnd hl h
    cases fuel with
    | zero => simp at hf
    | succ fuel =>
      have hk : bs[k]? = some j := by
        have := congrArg (fun l => l[0]?) hd
        simpa using this
      have hjb : j ∈ bs := List.mem_of_getElem? hk
      have hjn := hok.b j hjb
      have hdrop : bs.drop (k + 1) = rest := by
        rw [← List.drop_drop, hd]; rfl
      have hbs' : bs = bs.take k ++ j :: rest := by rw [← hd, List.take_append_drop]
      have hnd' : (bs.take k ++ j :: rest).Nodup := hbs' ▸ hbnd
      have hjr : j ∉ rest := fun hm => (List.nodup_cons.1 (List.nodup_append.1 hnd').2.1).1 hm
      have hjf : listed.getD j false = false := by
        have hne : ¬ listed.getD j false = true := fun hx => ((hl j hjn).1 hx) (by simp)
        simpa using hne
      have hunl : listed.getD j true = false := by rw [getD_flip (by omega)]; exact hjf
      obtain ⟨oj, hoj⟩ : ∃ o, ops[j]? = some o := ⟨_, Array.getElem?_eq_getElem hjn⟩
      have hone : ∀ i, i ∈ Region.ready .any ops listed → i = j := fun i hi => by
        obtain ⟨h0, o, ho, hdeps⟩ := mem_ready.1 hi
        have hin := (Array.getElem?_eq_some_iff.1 ho).1
        have hir : i ∈ j :: rest := by
          false_or_by_contra
          rename_i hno
          have := (hl i hin).2 hno
          rw [getD_flip (by omega)] at h0
          rw [h0] at this
          cases this
        cases hir with
        | head => rfl
        | tail _ hir =>
          exfalso
          obtain ⟨m, hm⟩ := List.getElem?_of_mem hir
          have hbi : bs[k + 1 + m]? = some i := by
            have := congrArg (fun l => l[m]?) hdrop
            simp only [List.getElem?_drop] at this
            rw [this, hm]
          have hjt : j ∈ bs.take (k + 1 + m) := List.mem_of_getElem? (i := k) (by rw [List.getElem?_take, if_pos (by omega)]; exact hk)
          obtain ⟨e, he, hb, heq⟩ := direct_spec.1 ((hok.bd _ i hbi o ho).2.1 j hjt)
          have := hdeps e he hb
          rw [heq, hjf] at this
          cases this
      have hready : j ∈ Region.ready .any ops listed := by
        rw [mem_ready]
        refine ⟨hunl, oj, hoj, fun e he hb => ?_⟩
        rcases (hok.bd k j hk oj hoj).1 e he hb with h1 | h1
        · exact (hl _ (hok.v _ h1).1).2 fun hm => (hok.v _ h1).2 (hbs' ▸ List.mem_append_right _ hm)
        · exact (hl _ (hok.b _ (List.mem_of_mem_take h1))).2 fun hm => (List.nodup_append.1 hnd').2.2 _ h1 _ hm rfl
      refine ⟨fun hr => (by rw [hr] at hready; cases hready), fun i hi => ?_⟩
      obtain rfl := hone i hi
      rw [wpOps_cons] at h
      refine wpOp_mono (fun a' w' h' => ih (k + 1) fuel _ a' w' hdrop (by simpa using hsz) (by simp at hf; omega) hbnd (fun x hx => ?_) h') h
      rw [listed_set (by omega)]
      by_cases hxi : x = i
      · subst hxi
        simp [hjr]
      · rw [if_neg hxi, hl x hx]
        simp [hxi]
theorem wpAny_predQ (hmono : Stays S) (hs : ∀ (j : Nat) (o : Oper) cs b, ops[j]? = some o → o.op ≠ .select cs b) {vs ps bs : List Nat} (hok : PartsQ ops vs ps bs) (hdst : dstsOk ops vs = true) (hbnd : bs.Nodup)
    (hQ : ∀ c a w d v, Q (.panic c) (Act.put a d v) w → Q (.panic c) a w)
    {Φ : Nat → World → Value → Prop} (hΦ : ∀ i w w' v, Φ i w v → Below w.heap.size w w' → Φ i w' v) {a0 : Act}
    (need : ∀ i ∈ vs, ∀ (γ : Nat → Value) (w : World), S w → (∀ d ∈ depsOf ops vs i, Φ d w (γ d)) → ∃ o, ops[i]? = some o ∧ PredOp P ops o (Φ i) (putD ops γ (depsOf ops vs i) a0) w)
    (pure : ∀ i ∈ ps, ∀ (γ : Nat → Value) (w : World), S w → (∀ d ∈ depsOf ops vs i, Φ d w (γ d)) → ∃ o v, ops[i]? = some o ∧ Yields P ops o v (putD ops γ (depsOf ops vs i) a0) ∧ Φ i w v)
    (hD : ∀ (γ : Nat → Value) (w : World), S w → (∀ i ∈ vs, Φ i w (γ i)) → wpOps P ops Q bs (putD ops γ vs a0) w) :
    ∀ (fuel : Nat) (listed : Array Bool) (γ : Nat → Value) (L : List Nat) (w : World), listed.size = ops.size → L.Nodup → (∀ i ∈ L, i ∈ vs) → (∀ i ∈ vs, i ∈ L ↔ listed.getD i false = true) → (∀ i ∈ bs, listed.getD i false = false) →
      Closed ops listed → (vs.filter fun i => !L.contains i).length + bs.length ≤ fuel → S w → (∀ i ∈ L, Φ i w (γ i)) → wpAny P .any ops Q fuel listed (putD ops γ L a0) w := by
  have hnd : vs.Nodup := hok.lt.imp fun h => by omega
  have hdd := dstsOk_spec hdst
  have hend : ∀ (fuel : Nat) (listed : Array Bool) (γ : Nat → Value) (L : List Nat) (w : World), listed.size = ops.size → L.Nodup → (∀ i ∈ L, i ∈ vs) → (∀ i ∈ vs, i ∈ L ↔ listed.getD i false = true) → (∀ i ∈ bs, listed.getD i false = false) →
      bs.length ≤ fuel → S w → (∀ i ∈ L, Φ i w (γ i)) → (∀ i ∈ vs, i ∈ L) → wpAny P .any ops Q fuel listed (putD ops γ L a0) w := by
    intro fuel listed γ L w hsz hLn hLv hl hbl hf hS hg hfull
    have hp : L.Perm vs := (List.perm_ext_iff_of_nodup hLn hnd).2 fun x => ⟨hLv x, hfull x⟩
    rw [putD_perm γ hp (fun x hx y hy => hdd x (hLv x hx) y (hLv y hy)) a0]
    refine wpAny_endQ hok bs 0 fuel listed _ w rfl hsz hf hbnd (fun i hi => ?_) (hD γ w hS fun i hi => hg i (hfull i hi))
    rcases hok.all i hi with h | h
    · exact ⟨fun _ hib => (hok.v i h).2 hib, fun _ => (hl i h).1 (hfull i h)⟩
    · exact ⟨fun ht => (by rw [hbl i h] at ht; cases ht), fun hn => absurd h hn⟩
  intro fuel
  induction fuel with
  | zero =>
    intro listed γ L w hsz hLn hLv hl hbl _ hf hS hg
    have h0 : (vs.filter fun i => !L.contains i) = [] := List.length_eq_zero_iff.1 (by omega)
    refine hend 0 listed γ L w hsz hLn hLv hl hbl (by omega) hS hg fun i hi => ?_
    have := List.filter_eq_nil_iff.1 h0 i hi
    simpa using this
  | succ fuel ih =>
    intro listed γ L w hsz hLn hLv hl hbl hcl hf hS hg
    by_cases hfull : ∀ i ∈ vs, i ∈ L
    · exact hend _ listed γ L w hsz hLn hLv hl hbl (by omega) hS hg hfull
    -- what has come up besides does not matter
    have htrans : ∀ i ∈ vs, ∀ oi, ops[i]? = some oi → i ∈ Region.ready .any ops listed → i ∉ L ∧ (∀ d ∈ depsOf ops vs i, d ∈ L) ∧
        execOp (putD ops γ L a0).eval oi = execOp (putD ops γ (depsOf ops vs i) a0).eval oi ∧ Region.wanted oi (yielded ops (putD ops γ L a0).tmps) = Region.wanted oi (yielded ops (putD ops γ (depsOf ops vs i) a0).tmps) := by
      intro i hiv oi hoi hi
      obtain ⟨h0, o', ho', hdeps⟩ := mem_ready.1 hi
      rw [hoi] at ho'
      cases ho'
      have hin : i < ops.size := (hok.v i hiv).1
      have h0' : listed.getD i false = false := by rw [← getD_flip (by rw [hsz]; exact hin)]; exact h0
      have hiL : i ∉ L := fun h => by rw [(hl i hiv).1 h] at h0'; cases h0'
      have hdL : ∀ d ∈ depsOf ops vs i, d ∈ L := fun d hd => by
        obtain ⟨hdv, e, he, hb, heq⟩ := (mem_depsOf hoi).1 hd
        have := hdeps e he hb
        rw [heq] at this
        exact (hl d hdv).2 this
      have hp : L.Perm (depsOf ops vs i ++ L.filter fun x => !(depsOf ops vs i).contains x) := by
        have h1 := (List.filter_append_perm (fun x => (depsOf ops vs i).contains x) L).symm
        refine h1.trans (List.Perm.append_right _ ?_)
        refine (List.perm_ext_iff_of_nodup (hLn.filter _) (hnd.filter _)).2 fun x => ?_
        rw [List.mem_filter]
        simp only [List.contains_eq_mem, decide_eq_true_eq]
        exact ⟨fun h => h.2, fun h => ⟨hdL x h, h⟩⟩
      have hput : putD ops γ L a0 = putD ops γ (L.filter fun x => !(depsOf ops vs i).contains x) (putD ops γ (depsOf ops vs i) a0) := by
        rw [putD_perm γ hp (fun x hx y hy => hdd x (hLv x hx) y (hLv y hy)) a0, putD_append]
      have hsame := same_putD (ops := ops) γ oi (fun cs b => hs i oi cs b hoi) (L.filter fun x => !(depsOf ops vs i).contains x) (putD ops γ (depsOf ops vs i) a0) fun x hx t ht => by
        obtain ⟨hxL, hxd⟩ := List.mem_filter.1 hx
        have hxv := hLv x hxL
        have hxo := Array.getElem?_eq_getElem (hok.v x hxv).1
        have hxd' : x ∉ depsOf ops vs i := by simpa using hxd
        have hdx : (ops[x]'(hok.v x hxv).1).dst = some t := by
          unfold dstOf at ht
          rw [hxo] at ht
          exact ht
        have hno : ∀ e ∈ oi.after, Region.binds .any e = true → e.on ≠ x := fun e he hb heq => hxd' ((mem_depsOf hoi).2 ⟨hxv, e, he, hb, heq⟩)
        have hne : x ≠ i := fun e => hiL (e ▸ hxL)
        rcases Nat.lt_or_gt_of_ne hne with hxi | hxi
        · exact (Oper.apart_spec ((hok.vd i hiv oi hoi).2 x hxv hxi _ hxo hno)).1 t hdx
        · have hap := (hok.vd x hxv _ hxo).2 i hiv hxi oi hoi fun e he hb heq => by
            have := hcl x _ e ((hl x hxv).1 hxL) hxo he hb
            rw [heq, h0'] at this
            cases this
          exact (Oper.apart_spec hap).2.2 t hdx
      rw [hput]
      exact ⟨hiL, hdL, hsame.1, hsame.2⟩
    -- one more has come up
    have hstep : ∀ i ∈ vs, ∀ oi, ops[i]? = some oi → i ∈ Region.ready .any ops listed → i ∉ L → ∀ v w', Φ i w' v → Below w.heap.size w w' → wpAny P .any ops Q fuel (listed.setIfInBounds i true) ((putD ops γ L a0).put oi.dst v) w' := by
      intro i hiv oi hoi hi hiL v w' hv hb
      have hin : i < ops.size := (hok.v i hiv).1
      have hγ : (putD ops γ L a0).put oi.dst v = putD ops (fun k => if k = i then v else γ k) (L ++ [i]) a0 := by
        rw [putD_append, putD_congr (γ := fun k => if k = i then v else γ k) (γ' := γ) L a0 fun k hk => (if_neg (fun e : k = i => hiL (e ▸ hk)) : (if k = i then v else γ k) = γ k)]
        show (putD ops γ L a0).put oi.dst v = (putD ops γ L a0).put (dstOf ops i) (if i = i then v else γ i)
        rw [if_pos rfl]
        unfold dstOf
        rw [hoi]
        rfl
      rw [hγ]
      refine ih _ _ _ _ (by simpa using hsz) ?_ ?_ ?_ ?_ (closed_set hcl hi) ?_ (hmono _ _ hS hb) ?_
      · rw [List.nodup_append]
        exact ⟨hLn, by simp, fun x hx y hy e => by simp at hy; exact hiL (hy ▸ e ▸ hx)⟩
      · intro x hx
        rcases List.mem_append.1 hx with h | h
        · exact hLv x h
        · simp at h; exact h ▸ hiv
      · intro x hx
        rw [listed_set (by rw [hsz]; exact hin), List.mem_append]
        by_cases hxi : x = i
        · subst hxi; simp
        · rw [if_neg hxi, ← hl x hx]; simp [hxi]
      · intro x hx
        have hxi : x ≠ i := fun e => (hok.v i hiv).2 (e ▸ hx)
        rw [listed_set (by rw [hsz]; exact hin), if_neg hxi]
        exact hbl x hx
      · have hlen : (vs.filter fun x => !(L ++ [i]).contains x).length < (vs.filter fun x => !L.contains x).length := by
          have hsub : (vs.filter fun x => !(L ++ [i]).contains x) = (vs.filter fun x => !L.contains x).filter fun x => x != i := by
            rw [List.filter_filter]
            congr 1
            funext x
            simp only [List.contains_eq_mem, List.mem_append, List.mem_singleton]
            by_cases h1 : x ∈ L <;> by_cases h2 : x = i <;> simp [h1, h2]
          rw [hsub]
          refine List.length_filter_lt_length_iff_exists.2 ⟨i, List.mem_filter.2 ⟨hiv, by simpa using hiL⟩, by simp⟩
        omega
      · intro x hx
        rcases List.mem_append.1 hx with h | h
        · have hxi : x ≠ i := fun e => hiL (e ▸ h)
          show Φ x w' (if x = i then v else γ x)
          rw [if_neg hxi]
          exact hΦ x w w' _ (hg x h) hb
        · simp at h
          subst h
          show Φ x w' (if x = x then v else γ x)
          rw [if_pos rfl]
          exact hv
    by_cases hpure : ∃ i ∈ ps, i ∈ Region.ready .any ops listed
    · obtain ⟨i, hip, hi⟩ := hpure
      have hiv := hok.p i hip
      have hoi := Array.getElem?_eq_getElem (hok.v i hiv).1
      obtain ⟨hiL, hdL, e1, e2⟩ := htrans i hiv _ hoi hi
      obtain ⟨o, v, ho, hy, hv⟩ := pure i hip γ w hS fun d hd => hg d (hdL d hd)
      rw [hoi] at ho
      cases ho
      exact wpAny_first hoi hs (fun c a w h => hQ c a w _ v h) fuel listed _ w (fun j oj hj hne hlj hno => hok.free i hip _ hoi j oj hj hne (fun e he hb heq => by
        obtain ⟨_, o', ho', hdeps⟩ := mem_ready.1 hi
        rw [hoi] at ho'
        cases ho'
        have h1 := hdeps e he hb
        rw [heq, ← getD_flip (by rw [hsz]; exact (Array.getElem?_eq_some_iff.1 hj).1), hlj] at h1
        cases h1) hno) hi (hy.of_same e1 e2) (hstep i hiv _ hoi hi hiL v w hv (Below.refl _ _))
    have hno : ∀ i ∈ ps, i ∉ Region.ready .any ops listed := fun i hip hi => hpure ⟨i, hip, hi⟩
    refine ⟨fun hr => ?_, fun i hi => ?_⟩
    · exfalso
      apply hfull
      have : ∀ n i, i ≤ n → i ∈ vs → i ∈ L := by
        intro n
        induction n with
        | zero =>
          intro i hin hi
          false_or_by_contra
          rename_i hiL
          have hio := Array.getElem?_eq_getElem (hok.v i hi).1
          have hm : i ∈ Region.ready .any ops listed := mem_ready.2 ⟨by rw [getD_flip (by rw [hsz]; exact (hok.v i hi).1)]; have := fun h => hiL ((hl i hi).2 h); simpa using this, _, hio, fun e he hb => by
            have := ((hok.vd i hi _ hio).1 e he hb).2
            omega⟩
          rw [hr] at hm
          cases hm
        | succ n ihn =>
          intro i hin hi
          false_or_by_contra
          rename_i hiL
          have hio := Array.getElem?_eq_getElem (hok.v i hi).1
          have hm : i ∈ Region.ready .any ops listed := mem_ready.2 ⟨by rw [getD_flip (by rw [hsz]; exact (hok.v i hi).1)]; have := fun h => hiL ((hl i hi).2 h); simpa using this, _, hio, fun e he hb => by
            obtain ⟨h1, h2⟩ := (hok.vd i hi _ hio).1 e he hb
            exact (hl e.on h1).1 (ihn e.on (by omega) h1)⟩
          rw [hr] at hm
          cases hm
      exact fun i hi => this i i (Nat.le_refl _) hi
    · obtain ⟨h0, oi, hoi, hdeps⟩ := mem_ready.1 hi
      have hin : i < ops.size := (Array.getElem?_eq_some_iff.1 hoi).1
      rcases hok.all i hin with hiv | hib
      · obtain ⟨hiL, hdL, e1, e2⟩ := htrans i hiv oi hoi hi
        obtain ⟨o, ho, hop⟩ := need i hiv γ w hS fun d hd => hg d (hdL d hd)
        rw [hoi] at ho
        cases ho
        exact (hop.of_same e1 e2).wpOp hoi fun v w' hv hb => hstep i hiv oi hoi hi hiL v w' hv hb
      · exfalso
        apply hfull
        intro x hx
        obtain ⟨k, hk⟩ := List.getElem?_of_mem hib
        have hdl : ∀ y, direct oi y = true → listed.getD y false = true := fun y hy => by
          obtain ⟨e, he, hb, heq⟩ := direct_spec.1 hy
          have := hdeps e he hb
          rw [heq] at this
          exact this
        rcases (hok.bd k i hk oi hoi).2.2 x hx with hd | ⟨hxp, hd⟩
        · exact (hl x hx).2 (hdl x hd)
        · false_or_by_contra
          rename_i hxL
          have hxo := Array.getElem?_eq_getElem (hok.v x hx).1
          refine hno x hxp (mem_ready.2 ⟨by rw [getD_flip (by rw [hsz]; exact (hok.v x hx).1)]; have := fun h => hxL ((hl x hx).2 h); simpa using this, _, hxo, fun e he hb => ?_⟩)
          exact hdl _ (hd _ ((mem_depsOf hxo).2 ⟨((hok.vd x hx _ hxo).1 e he hb).1, e, he, hb, rfl⟩))

/-- What is to be shown of the pure operations. -/
def PureE (P : Program) (ops : Array Oper) (S : World → Prop) (Φ : Nat → World → Value → Prop) (a0 : Act) : List Nat → List (List (Nat × Option Tmp)) → Prop
  | i :: r, d :: ds => (∀ (γ : Nat → Value) (w : World), S w → AllE Φ γ w d → ∃ o v, ops[i]? = some o ∧ Yields P ops o v (putE γ d a0) ∧ Φ i w v) ∧ PureE P ops S Φ a0 r ds
  | _, _ => True
theorem pureE_at {vs : List Nat} {Φ : Nat → World → Value → Prop} {a0 : Act} : ∀ l : List Nat, PureE P ops S Φ a0 l (l.map fun i => (depsOf ops vs i).map fun d => (d, dstOf ops d)) → ∀ i ∈ l, ∀ (γ : Nat → Value) (w : World), S w → (∀ d ∈ depsOf ops vs i, Φ d w (γ d)) → ∃ o v, ops[i]? = some o ∧ Yields P ops o v (putD ops γ (depsOf ops vs i) a0) ∧ Φ i w v
  | [], _, _, hi => by cases hi
  | j :: r, h, i, hi => by
    rcases List.mem_cons.1 hi with rfl | hi
    · intro γ w hS hd
      obtain ⟨o, v, ho, hp, hv⟩ := h.1 γ w hS (allE_eq _ hd)
      rw [putE_eq] at hp
      exact ⟨o, v, ho, hp, hv⟩
    · exact pureE_at r h.2 i hi

/-- THE LAW. -/
theorem wp_region_predQ {id : Nat} {a : Act} {w : World} (S : World → Prop) (vs ps bs : List Nat) (Φ : Nat → World → Value → Prop) (dl pl : List (List (Nat × Option Tmp))) (al : List (Nat × Option Tmp)) (hm : P.follows .mixedOrders = true) (hs : Region.noSelect ops = true) (hok : partsOkQ ops vs ps bs = true) (hdst : dstsOk ops vs = true)
    (hdl : (vs.map fun i => (depsOf ops vs i).map fun d => (d, dstOf ops d)) = dl) (hpl : (ps.map fun i => (depsOf ops vs i).map fun d => (d, dstOf ops d)) = pl) (hal : (vs.map fun d => (d, dstOf ops d)) = al) (hbnd : bs.Nodup) (hlen : vs.length + bs.length ≤ ops.size) (hmono : Stays S)
    (hQ : ∀ c a w d v, Q (.panic c) (Act.put a d v) w → Q (.panic c) a w) (hΦ : ∀ i w w' v, Φ i w v → Below w.heap.size w w' → Φ i w' v) (hS : S w.drew)
    (need : NeedE P ops S Φ a vs dl) (pure : PureE P ops S Φ a ps pl)
    (hD : ∀ (γ : Nat → Value) (w : World), S w → AllE Φ γ w al → wpOps P ops Q bs (putE γ al a) w) : (Code.region id ops true).wp P Q a w := by
  have hl0 : ∀ i, (Array.replicate ops.size false).getD i false = false := fun i => by
    by_cases hi : i < ops.size <;> simp [hi]
  subst hdl hpl hal
  refine wp_region_any hm ?_
  exact wpAny_predQ (Q := Q) hmono (Region.noSelect_spec hs) (partsQ_of hok) hdst hbnd hQ hΦ (fun i hi γ wx hSx h => needE_at vs need i hi γ wx hSx h) (fun i hi γ wx hSx h => pureE_at ps pure i hi γ wx hSx h) (fun γ wx hSx h => by rw [← putE_eq]; exact hD γ wx hSx (allE_eq _ h))
    ops.size (Array.replicate ops.size false) (fun _ => undef) [] w.drew (by simp) (by simp) (fun i hi => by cases hi) (fun i _ => by simp [hl0]) (fun i _ => hl0 i)
    (fun i o e hi => by rw [hl0] at hi; cases hi) (Nat.le_trans (Nat.add_le_add_right (List.length_filter_le _ _) _) hlen) hS (fun i hi => by cases hi)
end
end Go.Proofs.YtgabjmmmiogfjaaDoor

namespace Go.Proofs.YtgabjmmmiogfjaaDoor
open Go.RowKit

/-- Block b is turned into o; all else that was in memory is as it was. -/
structure Turn (b : Nat) (o : Obj) (w w' : World) : Prop where
  os : w'.os = w.os
  tape : w'.tape = w.tape
  output : w'.output = w.output
  size : w.heap.size ≤ w'.heap.size
  blk : Blk w' b o
  other : ∀ k, k < w.heap.size → k ≠ b → w'.heap[k]? = w.heap[k]?
theorem Turn.same {b : Nat} {o : Obj} {w : World} (h : Blk w b o) : Turn b o w w := ⟨rfl, rfl, rfl, Nat.le_refl _, h, fun _ _ _ => rfl⟩
theorem Turn.of {b : Nat} {o : Obj} {w w' : World} (h : Blk w b o) (hb : Below w.heap.size w w') : Turn b o w w' := ⟨hb.os, hb.tape, hb.output, hb.size, h.keep hb, fun k hk _ => hb.block k hk⟩
theorem Turn.below {b B : Nat} {o : Obj} {w w' : World} (h : Turn b o w w') (hB : B ≤ b) (hs : B ≤ w.heap.size) : Below B w w' := ⟨h.os, h.tape, h.output, h.size, fun k hk => h.other k (by omega) (by omega)⟩
theorem Turn.keep {b c : Nat} {o o' : Obj} {w w' : World} (h : Turn b o w w') (hk : Blk w c o') (hne : c ≠ b) : Blk w' c o' := (h.other c hk.lt hne).trans hk
theorem Turn.set {b : Nat} {cs : Array Value} {t : TypeId} {fr : Nat × Nat} {w w' : World} (h : Turn b (.cells cs t fr) w w') (i : Nat) (v : Value) : Turn b (.cells (cs.setIfInBounds i v) t fr) w (w'.setCell ⟨b, i, none⟩ v) :=
  ⟨h.os, h.tape, h.output, by simpa [World.setCell] using h.size, h.blk.set i v, fun k hk hne => by rw [Below.heap_setCell _ _ _ _ hne]; exact h.other k hk hne⟩
theorem Turn.drew {b : Nat} {o : Obj} {w w' : World} (h : Turn b o w w') : Turn b o w w'.drew := ⟨h.os, h.tape, h.output, h.size, h.blk, h.other⟩
theorem Turn.drewN {b : Nat} {o : Obj} {w w' : World} (h : Turn b o w w') (n : Nat) : Turn b o w (w'.drewN n) := ⟨h.os, h.tape, h.output, h.size, h.blk, h.other⟩
theorem Turn.as {b : Nat} {o o' : Obj} {w w' : World} (h : Turn b o w w') (e : o = o') : Turn b o' w w' := e ▸ h
theorem Turn.trans {b : Nat} {o o' : Obj} {w w1 w2 : World} (h : Turn b o w w1) (k : Turn b o' w1 w2) : Turn b o' w w2 :=
  ⟨k.os.trans h.os, k.tape.trans h.tape, k.output.trans h.output, Nat.le_trans h.size k.size, k.blk, fun i hi hne => (k.other i (Nat.lt_of_lt_of_le hi h.size) hne).trans (h.other i hi hne)⟩
theorem Turn.more {b : Nat} {o : Obj} {w w1 w2 : World} (h : Turn b o w w1) (k : Below w1.heap.size w1 w2) : Turn b o w w2 := h.trans (Turn.of h.blk k)
theorem Turn.ahead {b : Nat} {o : Obj} {w w1 w2 : World} (h : Below w.heap.size w w1) (k : Turn b o w1 w2) : Turn b o w w2 :=
  ⟨k.os.trans h.os, k.tape.trans h.tape, k.output.trans h.output, Nat.le_trans h.size k.size, k.blk, fun i hi hne => (k.other i (Nat.lt_of_lt_of_le hi h.size) hne).trans (h.block i hi)⟩
theorem Turn.alloc {b : Nat} {o : Obj} {w w1 : World} (h : Turn b o w w1) (o' : Obj) : Turn b o w (w1.alloc o') := h.more (Go.Proofs.YtgabjmmmiogfjaaDoor.more (Below.refl _ _) _)

/-- Behind a step that leaves all below B as it was. -/
theorem Turn.upto {b B : Nat} {o : Obj} {w w1 w2 : World} (h : Turn b o w w1) (k : Below B w1 w2) (hB : w.heap.size ≤ B) (hb : b < w.heap.size) : Turn b o w w2 :=
  ⟨k.os.trans h.os, k.tape.trans h.tape, k.output.trans h.output, Nat.le_trans h.size k.size, (k.block b (by omega)).trans h.blk, fun i hi hne => (k.block i (by omega)).trans (h.other i hi hne)⟩
theorem Blk.setRow {w : World} {g : Nat} {cs : Array Value} {t : TypeId} {fr : Nat × Nat} (h : Blk w g (.cells cs t fr)) (cs' : Array Value) : Blk (w.setRow g cs') g (.cells cs' t fr) := setRow_heap w g cs cs' t fr h
theorem Below.row {B g : Nat} {w0 w : World} (hb : Below B w0 w) (hBg : B ≤ g) (cs : Array Value) : Below B w0 (w.setRow g cs) := below_setRow hb hBg cs
theorem Blk.upto {w w' : World} {b B : Nat} {o : Obj} (h : Blk w b o) (k : Below B w w') (hb : b < B) : Blk w' b o := (k.block b hb).trans h
theorem below_row_grown {B : Nat} {w0 w w' : World} {e : TypeId} {size n : Nat} {v : Value} {xs : List Value} (h : Below B w0 w) (hB : B ≤ w.heap.size) (ho : w.ownsRow B e size v n xs) (hg : w.grownBy w' v.ownBlock) : Below B w0 w' :=
  h.grown hg hB (fun k hk => (ho.lt k hk.symm.symm).1)
theorem Turn.grown {b : Nat} {o : Obj} {w w' : World} (h : Turn b o w w') : w.grownBy w' (some b) := ⟨h.os, h.tape, h.output, h.size, fun k hk hne => h.other k hk (fun e => hne (by rw [e]))⟩
theorem ownsRow_turn {w w' : World} {base b size n : Nat} {e : TypeId} {v : Value} {xs : List Value} {o : Obj} (h : w.ownsRow base e size v n xs) (hT : Turn b o w w') (hb : b < base) : w'.ownsRow base e size v n xs := by
  refine h.kept hT.grown ?_
  cases hv : v.ownBlock with
  | none => exact .inl rfl
  | some k =>
    refine .inr fun e => ?_
    have := (h.lt k hv).1
    simp at e
    omega
theorem ownsRow_base {w : World} {base base' size n : Nat} {t : TypeId} {v : Value} {xs : List Value} (h : w.ownsRow base t size v n xs) (hb : base' ≤ base) : w.ownsRow base' t size v n xs := by
  obtain ⟨h1, h2⟩ := h
  refine ⟨h1, ?_⟩
  rcases h2 with h2 | ⟨g, cap, cur, hv, hg, r⟩
  · exact .inl h2
  · exact .inr ⟨g, cap, cur, hv, by omega, r⟩
theorem ownsRow_below {w w' : World} {base size n : Nat} {e : TypeId} {v : Value} {xs : List Value} (h : w.ownsRow base e size v n xs) (hb : Below w.heap.size w w') : w'.ownsRow base e size v n xs := by
  refine h.kept (row := none) ⟨hb.os, hb.tape, hb.output, hb.size, fun k hk _ => hb.block k hk⟩ ?_
  cases v.ownBlock with
  | none => exact .inl rfl
  | some k => exact .inr (by simp)
theorem retb {a b : Bool} (h : a = b) : Ending.returned (.bool a) = Ending.returned (.bool b) := by rw [h]
theorem reti {k : IntKind} {a b : Int} (h : a = b) : Ending.returned (.int k a) = .returned (.int k b) := by rw [h]

/-- The bytes of a list, as values. -/
abbrev bv (l : List Int) : List Value := l.map (Value.int .u8)
/-- Numbers that are bytes. -/
def Bytes (l : List Int) : Prop := ∀ x ∈ l, 0 ≤ x ∧ x ≤ 255
theorem Bytes.nil : Bytes [] := fun x h => by cases h
theorem Bytes.take {l : List Int} (h : Bytes l) (k : Nat) : Bytes (l.take k) := fun x hx => h x (List.mem_of_mem_take hx)
theorem Bytes.drop {l : List Int} (h : Bytes l) (k : Nat) : Bytes (l.drop k) := fun x hx => h x (List.mem_of_mem_drop hx)
theorem Bytes.append {l m : List Int} (h : Bytes l) (h2 : Bytes m) : Bytes (l ++ m) := fun x hx => by
  rcases List.mem_append.1 hx with hx | hx
  · exact h x hx
  · exact h2 x hx
theorem Bytes.at {l : List Int} (h : Bytes l) {i : Nat} (hi : i < l.length) : 0 ≤ l.getD i 0 ∧ l.getD i 0 ≤ 255 := by
  rw [List.getD_eq_getElem?_getD, List.getElem?_eq_getElem hi]
  exact h _ (List.getElem_mem hi)
/-- The slice v holds the bytes l, in a block below M. -/
def HoldsB (w : World) (M : Nat) (v : Value) (l : List Int) : Prop :=
  ∃ a cap, v = .slice a l.length cap ∧ l.length ≤ cap ∧ cap ≤ maxLen ∧ (a = none → cap = 0) ∧ (∀ x, a = some x → 0 < l.length → x.spot = none ∧ x.block < M ∧ x.block < w.heap.size) ∧
    (∀ x i, a = some x → i < l.length → w.cell? ⟨x.block, x.off + i, none⟩ = some (.int .u8 (l.getD i 0))) ∧ Bytes l
theorem HoldsB.nil (w : World) (M : Nat) : HoldsB w M (.slice none 0 0) [] :=
  ⟨none, 0, rfl, Nat.le_refl _, by unfold maxLen; omega, fun _ => rfl, (fun x h => by cases h), (fun x i h => by cases h), Bytes.nil⟩
theorem HoldsB.mono {w : World} {M M' : Nat} {v : Value} {l : List Int} (h : HoldsB w M v l) (hM : M ≤ M') : HoldsB w M' v l := by
  obtain ⟨a, cap, h1, h2, h3, h4, h5, h6, h7⟩ := h
  exact ⟨a, cap, h1, h2, h3, h4, fun x hx h0 => ⟨(h5 x hx h0).1, Nat.lt_of_lt_of_le (h5 x hx h0).2.1 hM, (h5 x hx h0).2.2⟩, h6, h7⟩
theorem HoldsB.frame {w w' : World} {M : Nat} {v : Value} {l : List Int} (h : HoldsB w M v l) (hs : w.heap.size ≤ w'.heap.size) (hf : ∀ k, k < M → k < w.heap.size → w'.heap[k]? = w.heap[k]?) : HoldsB w' M v l := by
  obtain ⟨a, cap, h1, h2, h3, h4, h5, h6, h7⟩ := h
  refine ⟨a, cap, h1, h2, h3, h4, fun x hx h0 => ⟨(h5 x hx h0).1, (h5 x hx h0).2.1, Nat.lt_of_lt_of_le (h5 x hx h0).2.2 hs⟩, fun x i hx hi => ?_, h7⟩
  exact (World.cell?_of_block (w := w) (a := ⟨x.block, x.off + i, none⟩) (hf _ (h5 x hx (by omega)).2.1 (h5 x hx (by omega)).2.2)).trans (h6 x i hx hi)
theorem HoldsB.keep {w w' : World} {M : Nat} {v : Value} {l : List Int} (h : HoldsB w M v l) (hb : Below w.heap.size w w') : HoldsB w' M v l := h.frame hb.size fun k _ hk => hb.block k hk
theorem HoldsB.turn {w w' : World} {M b : Nat} {o : Obj} {v : Value} {l : List Int} (h : HoldsB w M v l) (hb : Turn b o w w') (hM : M ≤ b) : HoldsB w' M v l := h.frame hb.size fun k hk hs => hb.other k hs (by omega)
theorem HoldsB.alloc {w : World} {M : Nat} {v : Value} {l : List Int} (h : HoldsB w M v l) (o : Obj) : HoldsB (w.alloc o) M v l := h.keep (more (Below.refl _ _) _)
theorem HoldsB.drew {w : World} {M : Nat} {v : Value} {l : List Int} (h : HoldsB w M v l) : HoldsB w.drew M v l := h
theorem HoldsB.len {w : World} {M : Nat} {v : Value} {l : List Int} (h : HoldsB w M v l) : l.length ≤ maxLen := by
  obtain ⟨a, cap, h1, h2, h3, _⟩ := h
  omega
theorem HoldsB.bytes {w : World} {M : Nat} {v : Value} {l : List Int} (h : HoldsB w M v l) : Bytes l := by
  obtain ⟨a, cap, h1, h2, h3, h4, h5, h6, h7⟩ := h
  exact h7
/-- One cell. -/
theorem HoldsB.cellAt {w : World} {M : Nat} {a : Option Addr} {n cap : Nat} {l : List Int} (h : HoldsB w M (.slice a n cap) l) {i : Nat} (hi : i < l.length) :
    ∃ b off, a = some ⟨b, off, none⟩ ∧ n = l.length ∧ w.cell? ⟨b, off + i, none⟩ = some (.int .u8 (l.getD i 0)) := by
  obtain ⟨a', cap', h1, h2, h3, h4, h5, h6, h7⟩ := h
  simp only [Value.slice.injEq] at h1
  obtain ⟨rfl, rfl, rfl⟩ := h1
  cases a with
  | none => have := h4 rfl; omega
  | some x =>
    obtain ⟨hs, _⟩ := h5 x rfl (by omega)
    obtain ⟨b, off, spot⟩ := x
    simp only at hs
    subst hs
    exact ⟨b, off, rfl, rfl, h6 _ i rfl hi⟩
theorem HoldsB.news {w : World} {M : Nat} {ad : Addr} {n cap : Nat} {l : List Int} (h : HoldsB w M (.slice (some ad) n cap) l) : ∀ j u, (bv l)[j]? = some u → w.cell? (ad.add j) = some u := by
  obtain ⟨a', cap', h1, h2, h3, h4, h5, h6, h7⟩ := h
  simp only [Value.slice.injEq] at h1
  obtain ⟨rfl, rfl, rfl⟩ := h1
  intro j u hu
  rw [List.getElem?_map] at hu
  by_cases hj : j < l.length
  · rw [List.getElem?_eq_getElem hj] at hu
    simp at hu
    have h := h6 ad j rfl hj
    obtain ⟨hs, _⟩ := h5 ad rfl (by omega)
    have e : ad.add j = ⟨ad.block, ad.off + j, none⟩ := by
      obtain ⟨b, off, spot⟩ := ad
      simp only at hs
      subst hs
      unfold Addr.add
      split <;> simp_all
    rw [e, h, ← hu, List.getD_eq_getElem?_getD, List.getElem?_eq_getElem hj]
    rfl
  · rw [List.getElem?_eq_none (by omega)] at hu
    simp at hu
theorem HoldsB.source {w : World} {M : Nat} {a : Option Addr} {n cap : Nat} {l : List Int} (h : HoldsB w M (.slice a n cap) l) (h0 : 0 < (bv l).length) : ∃ ad, a = some ad ∧ ∀ j u, (bv l)[j]? = some u → w.cell? (ad.add j) = some u := by
  cases a with
  | none =>
    obtain ⟨a', cap', h1, h2, h3, h4, h5, h6, h7⟩ := h
    simp only [Value.slice.injEq] at h1
    have := h4 h1.1.symm
    simp at h0
    omega
  | some ad => exact ⟨ad, rfl, h.news⟩
theorem bv_len (l : List Int) : (bv l).length = l.length * 1 := by simp
theorem bv_one (l : List Int) : ∀ u ∈ bv l, u.oneCell' = true := by
  intro u hu
  obtain ⟨x, _, rfl⟩ := List.mem_map.1 hu
  rfl
theorem info5 : (Tryd.prog.info? 5).map (fun i => (i.zero, i.size, i.bytes)) = some (some (.int .u8 0), 1, 1) := by kernel_rfl
theorem HoldsB.slice {w : World} {M : Nat} {v : Value} {l : List Int} (h : HoldsB w M v l) : ∃ a n cap, v = .slice a n cap ∧ n = l.length := by
  obtain ⟨a, cap, h1, _⟩ := h
  exact ⟨a, _, cap, h1, rfl⟩
/-- A row of the call's own, read as bytes. -/
theorem HoldsB.ofRow {w : World} {base : Nat} {v : Value} {l : List Int} (h7 : Bytes l) (h : w.ownsRow base 5 1 v l.length (bv l)) : HoldsB w w.heap.size v l := by
  rcases h.2 with ⟨rfl, hn⟩ | ⟨g, cap, cur, rfl, hb, hg, h1, h2, h3, h4⟩
  · have hl := List.length_eq_zero_iff.1 hn
    subst hl
    exact HoldsB.nil _ _
  · have hlt := (Array.getElem?_eq_some_iff.1 hg).1
    refine ⟨_, cap, rfl, h1, h2, (fun e => by cases e), (fun x hx _ => by cases hx; exact ⟨rfl, hlt, hlt⟩), (fun x i hx hi => ?_), h7⟩
    cases hx
    rw [cell_of_row w g (0 + i) cur 5 (0, 0) hg]
    have h5 : (bv l)[i]? = some (.int .u8 (l.getD i 0)) := by
      rw [List.getElem?_map, List.getD_eq_getElem?_getD, List.getElem?_eq_getElem hi]
      simp
    rw [← h4, List.getElem?_take, if_pos (by omega)] at h5
    simpa using h5

theorem take_getD {l : List Int} {k i : Nat} (h : i < k) : (l.take k).getD i 0 = l.getD i 0 := by
  simp only [List.getD_eq_getElem?_getD]
  rw [List.getElem?_take, if_pos h]
theorem drop_getD (l : List Int) (k i : Nat) : (l.drop k).getD i 0 = l.getD (k + i) 0 := by
  simp only [List.getD_eq_getElem?_getD, List.getElem?_drop]

theorem at22 (_w : World) (a : Option Addr) (l h m s : Nat) : sliced a l h m s = .slice (if m = l then a else a.map (·.add (l * s))) (h - l) (m - l) := rfl
theorem size5 (w : World) : (sizeOf 5).run Tryd.prog w = .ok 1 w := by kernel_rfl
theorem elem22 : Tryd.prog.elem 24 = 5 := by kernel_rfl
set_option maxRecDepth 100000 in
/-- v[:k]. -/
theorem HoldsB.front {w : World} {M : Nat} {v : Value} {l : List Int} (h : HoldsB w M v l) {k : Nat} (hk : k ≤ l.length) :
    ∃ v', (∀ w1, (Instr.sliceAt 24 v none (some (.int .i64 k)) none).run Tryd.prog w1 = .ok v' w1) ∧ HoldsB w M v' (l.take k) := by
  obtain ⟨a, cap, rfl, h2, h3, h4, h5, h6, h7⟩ := h
  refine ⟨sliced a 0 k cap 1, fun w1 => ?_, ?_⟩
  · rw [run_sliceAt_slice (h := Tryd.underlying24), run_slice_h (ht := Tryd.underlying24) (h0 := by omega) (h2 := by omega), elem22, size5]
    simp [Result.andThen]
  · have hz : sliced a 0 k cap 1 = .slice a (l.take k).length cap := by
      unfold sliced
      rw [List.length_take, Nat.min_eq_left hk]
      simp only [Nat.sub_zero, Nat.zero_mul]
      congr 1
      split
      · rfl
      · cases a <;> simp [Addr.add]
    rw [hz]
    refine ⟨a, cap, rfl, by rw [List.length_take]; omega, h3, h4, fun x hx h0 => h5 x hx (by rw [List.length_take] at h0; omega), fun x i hx hi => ?_, h7.take k⟩
    rw [List.length_take] at hi
    rw [take_getD (by omega)]
    exact h6 x i hx (by omega)
set_option maxRecDepth 100000 in
/-- v[k:]. -/
theorem HoldsB.back {w : World} {M : Nat} {v : Value} {l : List Int} (h : HoldsB w M v l) {k : Nat} (hk : k ≤ l.length) :
    ∃ v', (∀ w1, (Instr.sliceAt 24 v (some (.int .i64 k)) none none).run Tryd.prog w1 = .ok v' w1) ∧ HoldsB w M v' (l.drop k) := by
  obtain ⟨a, cap, rfl, h2, h3, h4, h5, h6, h7⟩ := h
  refine ⟨sliced a k l.length cap 1, fun w1 => ?_, ?_⟩
  · rw [run_sliceAt_slice (h := Tryd.underlying24), run_slice_l (ht := Tryd.underlying24) (h0 := by omega) (h1 := by omega), elem22, size5]
    simp [Result.andThen]
  · by_cases hc : cap = k
    · have hkl : k = l.length := by omega
      refine ⟨a, cap - k, ?_, by rw [List.length_drop]; omega, by omega, fun e => by have := h4 e; omega, fun x hx h0 => h5 x hx (by rw [List.length_drop] at h0; omega), fun x i hx hi => ?_, h7.drop k⟩
      · unfold sliced
        rw [if_pos hc, List.length_drop]
      · rw [List.length_drop] at hi; omega
    · refine ⟨a.map (·.add (k * 1)), cap - k, ?_, by rw [List.length_drop]; omega, by omega, fun e => ?_, fun x hx h0 => ?_, fun x i hx hi => ?_, h7.drop k⟩
      · unfold sliced
        rw [if_neg hc, List.length_drop]
      · cases a with
        | none => have := h4 rfl; omega
        | some y => simp at e
      · cases a with
        | none => simp at hx
        | some y =>
          simp only [Option.map_some, Option.some.injEq] at hx
          subst hx
          have := h5 y rfl (by rw [List.length_drop] at h0; omega)
          unfold Addr.add
          split <;> simp_all
      · cases a with
        | none => simp at hx
        | some y =>
          simp only [Option.map_some, Option.some.injEq] at hx
          subst hx
          rw [List.length_drop] at hi
          rw [drop_getD]
          have := h6 y (k + i) rfl (by omega)
          have e1 : (y.add (k * 1)).block = y.block := by unfold Addr.add; split <;> rfl
          have e2 : (y.add (k * 1)).off = y.off + k := by unfold Addr.add; split <;> simp_all
          rw [e1, e2, Nat.add_assoc]
          exact this

set_option maxRecDepth 100000 in
/-- string(v). -/
theorem HoldsB.text {w : World} {M : Nat} {v : Value} {l : List Int} (h : HoldsB w M v l) : (convert 24 9 v).run Tryd.prog w = .ok (.string (strOfNums l)) w := by
  obtain ⟨a, n, cap, rfl, hn⟩ := h.slice
  cases a with
  | none =>
    obtain ⟨a', cap', h1, h2, h3, h4, h5, h6, h7⟩ := h
    simp only [Value.slice.injEq] at h1
    have := h4 h1.1.symm
    obtain rfl : l = [] := List.length_eq_zero_iff.1 (by omega)
    rw [run_convert_bytes_nil w 24 5 Tryd.underlying24 Tryd.underlying5 n cap 9 Tryd.underlying9]
    rfl
  | some ad =>
    obtain ⟨a', cap', h1, h2, h3, h4, h5, h6, h7⟩ := h
    simp only [Value.slice.injEq] at h1
    obtain ⟨rfl, _, _⟩ := h1
    by_cases h0 : l.length = 0
    · obtain rfl : l = [] := List.length_eq_zero_iff.1 h0
      obtain rfl : n = 0 := by simpa using hn
      rw [run_convert_bytes_string w 24 9 5 _ 0 cap Tryd.underlying24 Tryd.underlying5 Tryd.underlying9, run_bytesToString w ad 0 cap [] (by simp [loadCells, loadCellsFrom])]
      rfl
    obtain ⟨hsp, _⟩ := h5 ad rfl (by omega)
    obtain ⟨b, off, spot⟩ := ad
    simp only at hsp
    subst hsp
    exact run_convert_bytes_arg w 24 5 Tryd.underlying24 Tryd.underlying5 b off n cap l hn.symm (fun i hi => h6 _ i rfl (by omega)) 9 Tryd.underlying9

open Go.ChangeShapes Go.WideShapes Go.ChangeAt Go.Deep in
/-- A slice of bytes that came in. -/
theorem row_bytes {H : Type} {enc : TypeId × Value → H} {W : World} {a : Option Addr} {len cap : Nat} {d : DataW H} {p : List MemPlace}
    (k : DataW.Trod enc Tryd.prog W 0 (fun _ => true) true 24 (.slice a len cap) d p) : ∃ l, HoldsB W W.heap.size (.slice a len cap) l := by
  obtain ⟨fuel, hf⟩ := k
  rcases open_slice1 Tryd.underlying24 (by kernel_rfl) hf with ⟨hcs, _⟩ | ⟨x, l, c, m, n, V, D, Pl, hcs, hb, hl, hm, hmm, hx, hi⟩
  · simp [Value.cells] at hcs
    obtain ⟨rfl, rfl, rfl⟩ := hcs
    exact ⟨[], HoldsB.nil _ _⟩
  · simp [Value.cells] at hcs
    obtain ⟨rfl, rfl, rfl⟩ := hcs
    have hmc : m = cap := by simpa using hmm
    have each : ∀ i, i < len → ∃ z : Int, W.cell? (x.add i) = some (.int .u8 z) ∧ 0 ≤ z ∧ z ≤ 255 := fun i him => by
      obtain ⟨hc, ht⟩ := hi i (by omega)
      obtain ⟨u, e0, _, wu⟩ := DataW.trod_int Tryd.underlying5 ht
      simp only [List.cons.injEq, and_true] at e0
      rw [e0] at hc
      have h1 : IntKind.u8.min = 0 := rfl
      have h2 : IntKind.u8.max = 255 := rfl
      simp [Lit.wf, h1, h2] at wu
      exact ⟨u, hc, wu⟩
    obtain ⟨f, hf'⟩ : ∃ f : Nat → Int, ∀ i, i < len → W.cell? (x.add i) = some (.int .u8 (f i)) ∧ 0 ≤ f i ∧ f i ≤ 255 := by
      refine ⟨fun i => if h : i < len then Classical.choose (each i h) else 0, fun i hi => ?_⟩
      simp only [hi, dif_pos]
      exact Classical.choose_spec (each i hi)
    have hsp : 0 < len → x.spot = none ∧ x.block < W.heap.size := fun h0 => by
      have h1 := (hf' 0 h0).1
      have h2 : x.add 0 = x := by simp [Addr.add]
      rw [h2] at h1
      exact ⟨World.cell?_spot h1, World.block_lt_of_cell? W _ h1⟩
    refine ⟨(List.range len).map f, some x, cap, by simp, by simpa using hl, hm, (fun e => by cases e), fun y hy h0 => ?_, fun y i hy hi' => ?_, fun z hz => ?_⟩
    · cases hy
      simp at h0
      exact ⟨(hsp h0).1, (hsp h0).2, (hsp h0).2⟩
    · cases hy
      simp at hi'
      have hs := (hsp (by omega)).1
      have e : x.add i = ⟨x.block, x.off + i, none⟩ := by
        obtain ⟨b, off, spot⟩ := x
        simp only at hs
        subst hs
        unfold Addr.add
        split <;> simp_all
      rw [← e, (hf' i hi').1, List.getD_eq_getElem?_getD, List.getElem?_map, List.getElem?_range hi']
      rfl
    · obtain ⟨i, hi', rfl⟩ := List.mem_map.1 hz
      exact (hf' i (by simpa using hi')).2
end Go.Proofs.YtgabjmmmiogfjaaDoor
