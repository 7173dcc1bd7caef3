/-
  As FlowQ, where besides two values may stand to each other as T asks (what one operation makes stands apart from what another one holds, whichever came first).
  The document's Up.
  ladder.Climb, the document's Climb.
-/
import Derived.Test.YtahmioiefmheeaaDoorGf15
namespace Go.Proofs.YtahmioiefmheeaaDoor
open Go.RowKit

theorem PredRun.imp {P : Program} {w : World} {V V' : World → Value → Prop} {r : Result Next} (hi : ∀ w v, V w v → V' w v) (h : PredRun P w V r) : PredRun P w V' r := by
  cases r with
  | ok n w' =>
    cases n with
    | value u => exact ⟨hi _ _ h.1, h.2⟩
    | enter f args =>
      obtain ⟨rfl, hg⟩ := h
      exact ⟨rfl, Calls.mono hg fun e w'' he => by obtain ⟨v, rfl, hv, hb⟩ := he; exact ⟨v, rfl, hi _ _ hv, hb⟩⟩
    | _ => exact h.elim
  | halt x w' => exact h.elim
theorem PredOp.imp {P : Program} {ops : Array Oper} {o : Oper} {V V' : World → Value → Prop} {a : Act} {w : World} (h : PredOp P ops o V a w) (hi : ∀ w v, V w v → V' w v) : PredOp P ops o V' a w := by
  rcases h with ⟨h1, h2⟩ | ⟨h1, h2⟩
  · exact .inl ⟨h1, h2.imp hi⟩
  · exact .inr ⟨h1, hi _ _ h2⟩
section
variable {P : Program} {ops : Array Oper} {Q : Exit → Act → World → Prop} {S : World → Prop}

theorem wpAny_predR (hmono : Stays S) (hs : ∀ (j : Nat) (o : Oper) cs b, ops[j]? = some o → o.op ≠ .select cs b) {vs ps bs : List Nat} (hok : PartsQ ops vs ps bs) (hdst : dstsOk ops vs = true) (hbnd : bs.Nodup)
    (hQ : ∀ c a w d v, Q (.panic c) (Act.put a d v) w → Q (.panic c) a w)
    {Φ : Nat → World → Value → Prop} (hΦ : ∀ i w w' v, Φ i w v → Below w.heap.size w w' → Φ i w' v) {T : Nat → Nat → Value → Value → Prop} (hTs : ∀ i j u v, T i j u v → T j i v u) {a0 : Act}
    (need : ∀ i ∈ vs, ∀ (γ : Nat → Value) (w : World), S w → (∀ d ∈ depsOf ops vs i, Φ d w (γ d)) → ∃ o, ops[i]? = some o ∧ PredOp P ops o (fun w' v => Φ i w' v ∧ ∀ j u, j ≠ i → Φ j w u → (∀ d ∈ depsOf ops vs i, d ≠ j → T d j (γ d) u) → T i j v u) (putD ops γ (depsOf ops vs i) a0) w)
    (pure : ∀ i ∈ ps, ∀ (γ : Nat → Value) (w : World), S w → (∀ d ∈ depsOf ops vs i, Φ d w (γ d)) → ∃ o v, ops[i]? = some o ∧ Yields P ops o v (putD ops γ (depsOf ops vs i) a0) ∧ Φ i w v ∧ ∀ j u, j ≠ i → Φ j w u → (∀ d ∈ depsOf ops vs i, d ≠ j → T d j (γ d) u) → T i j v u)
    (hD : ∀ (γ : Nat → Value) (w : World), S w → (∀ i ∈ vs, Φ i w (γ i)) → (∀ i ∈ vs, ∀ j ∈ vs, i ≠ j → T i j (γ i) (γ j)) → wpOps P ops Q bs (putD ops γ vs a0) w) :
    ∀ (fuel : Nat) (listed : Array Bool) (γ : Nat → Value) (L : List Nat) (w : World), listed.size = ops.size → L.Nodup → (∀ i ∈ L, i ∈ vs) → (∀ i ∈ vs, i ∈ L ↔ listed.getD i false = true) → (∀ i ∈ bs, listed.getD i false = false) →
      Closed ops listed → (vs.filter fun i => !L.contains i).length + bs.length ≤ fuel → S w → (∀ i ∈ L, Φ i w (γ i)) → (∀ i ∈ L, ∀ j ∈ L, i ≠ j → T i j (γ i) (γ j)) → wpAny P .any ops Q fuel listed (putD ops γ L a0) w := by
  have hnd : vs.Nodup := hok.lt.imp fun h => by omega
  have hdd := dstsOk_spec hdst
  have hend : ∀ (fuel : Nat) (listed : Array Bool) (γ : Nat → Value) (L : List Nat) (w : World), listed.size = ops.size → L.Nodup → (∀ i ∈ L, i ∈ vs) → (∀ i ∈ vs, i ∈ L ↔ listed.getD i false = true) → (∀ i ∈ bs, listed.getD i false = false) →
      bs.length ≤ fuel → S w → (∀ i ∈ L, Φ i w (γ i)) → (∀ i ∈ L, ∀ j ∈ L, i ≠ j → T i j (γ i) (γ j)) → (∀ i ∈ vs, i ∈ L) → wpAny P .any ops Q fuel listed (putD ops γ L a0) w := by
    intro fuel listed γ L w hsz hLn hLv hl hbl hf hS hg hT hfull
    have hp : L.Perm vs := (List.perm_ext_iff_of_nodup hLn hnd).2 fun x => ⟨hLv x, hfull x⟩
    rw [putD_perm γ hp (fun x hx y hy => hdd x (hLv x hx) y (hLv y hy)) a0]
    refine wpAny_endQ hok bs 0 fuel listed _ w rfl hsz hf hbnd (fun i hi => ?_) (hD γ w hS (fun i hi => hg i (hfull i hi)) fun i hi j hj hne => hT i (hfull i hi) j (hfull j hj) hne)
    rcases hok.all i hi with h | h
    · exact ⟨fun _ hib => (hok.v i h).2 hib, fun _ => (hl i h).1 (hfull i h)⟩
    · exact ⟨fun ht => (by rw [hbl i h] at ht; cases ht), fun hn => absurd h hn⟩
  intro fuel
  induction fuel with
  | zero =>
    intro listed γ L w hsz hLn hLv hl hbl _ hf hS hg hT
    have h0 : (vs.filter fun i => !L.contains i) = [] := List.length_eq_zero_iff.1 (by omega)
    refine hend 0 listed γ L w hsz hLn hLv hl hbl (by omega) hS hg hT fun i hi => ?_
    have := List.filter_eq_nil_iff.1 h0 i hi
    simpa using this
  | succ fuel ih =>
    intro listed γ L w hsz hLn hLv hl hbl hcl hf hS hg hT
    by_cases hfull : ∀ i ∈ vs, i ∈ L
    · exact hend _ listed γ L w hsz hLn hLv hl hbl (by omega) hS hg hT hfull
    -- what has come up besides does not matter
    have htrans : ∀ i ∈ vs, ∀ oi, ops[i]? = some oi → i ∈ Region.ready .any ops listed → i ∉ L ∧ (∀ d ∈ depsOf ops vs i, d ∈ L) ∧
        execOp (putD ops γ L a0).eval oi = execOp (putD ops γ (depsOf ops vs i) a0).eval oi ∧ Region.wanted oi (yielded ops (putD ops γ L a0).tmps) = Region.wanted oi (yielded ops (putD ops γ (depsOf ops vs i) a0).tmps) := by
      intro i hiv oi hoi hi
      obtain ⟨h0, o', ho', hdeps⟩ := mem_ready.1 hi
      rw [hoi] at ho'
      cases ho'
      have hin : i < ops.size := (hok.v i hiv).1
      have h0' : listed.getD i false = false := by rw [← getD_flip (by rw [hsz]; exact hin)]; exact h0
      have hiL : i ∉ L := fun h => by rw [(hl i hiv).1 h] at h0'; cases h0'
      have hdL : ∀ d ∈ depsOf ops vs i, d ∈ L := fun d hd => by
        obtain ⟨hdv, e, he, hb, heq⟩ := (mem_depsOf hoi).1 hd
        have := hdeps e he hb
        rw [heq] at this
        exact (hl d hdv).2 this
      have hp : L.Perm (depsOf ops vs i ++ L.filter fun x => !(depsOf ops vs i).contains x) := by
        have h1 := (List.filter_append_perm (fun x => (depsOf ops vs i).contains x) L).symm
        refine h1.trans (List.Perm.append_right _ ?_)
        refine (List.perm_ext_iff_of_nodup (hLn.filter _) (hnd.filter _)).2 fun x => ?_
        rw [List.mem_filter]
        simp only [List.contains_eq_mem, decide_eq_true_eq]
        exact ⟨fun h => h.2, fun h => ⟨hdL x h, h⟩⟩
      have hput : putD ops γ L a0 = putD ops γ (L.filter fun x => !(depsOf ops vs i).contains x) (putD ops γ (depsOf ops vs i) a0) := by
        rw [putD_perm γ hp (fun x hx y hy => hdd x (hLv x hx) y (hLv y hy)) a0, putD_append]
      have hsame := same_putD (ops := ops) γ oi (fun cs b => hs i oi cs b hoi) (L.filter fun x => !(depsOf ops vs i).contains x) (putD ops γ (depsOf ops vs i) a0) fun x hx t ht => by
        obtain ⟨hxL, hxd⟩ := List.mem_filter.1 hx
        have hxv := hLv x hxL
        have hxo := Array.getElem?_eq_getElem (hok.v x hxv).1
        have hxd' : x ∉ depsOf ops vs i := by simpa using hxd
        have hdx : (ops[x]'(hok.v x hxv).1).dst = some t := by
          unfold dstOf at ht
          rw [hxo] at ht
          exact ht
        have hno : ∀ e ∈ oi.after, Region.binds .any e = true → e.on ≠ x := fun e he hb heq => hxd' ((mem_depsOf hoi).2 ⟨hxv, e, he, hb, heq⟩)
        have hne : x ≠ i := fun e => hiL (e ▸ hxL)
        rcases Nat.lt_or_gt_of_ne hne with hxi | hxi
        · exact (Oper.apart_spec ((hok.vd i hiv oi hoi).2 x hxv hxi _ hxo hno)).1 t hdx
        · have hap := (hok.vd x hxv _ hxo).2 i hiv hxi oi hoi fun e he hb heq => by
            have := hcl x _ e ((hl x hxv).1 hxL) hxo he hb
            rw [heq, h0'] at this
            cases this
          exact (Oper.apart_spec hap).2.2 t hdx
      rw [hput]
      exact ⟨hiL, hdL, hsame.1, hsame.2⟩
    -- one more has come up
    have hstep : ∀ i ∈ vs, ∀ oi, ops[i]? = some oi → i ∈ Region.ready .any ops listed → i ∉ L → ∀ v w', Φ i w' v → (∀ j ∈ L, T i j v (γ j)) → Below w.heap.size w w' → wpAny P .any ops Q fuel (listed.setIfInBounds i true) ((putD ops γ L a0).put oi.dst v) w' := by
      intro i hiv oi hoi hi hiL v w' hv hvT hb
      have hin : i < ops.size := (hok.v i hiv).1
      have hγ : (putD ops γ L a0).put oi.dst v = putD ops (fun k => if k = i then v else γ k) (L ++ [i]) a0 := by
        rw [putD_append, putD_congr (γ := fun k => if k = i then v else γ k) (γ' := γ) L a0 fun k hk => (if_neg (fun e : k = i => hiL (e ▸ hk)) : (if k = i then v else γ k) = γ k)]
        show (putD ops γ L a0).put oi.dst v = (putD ops γ L a0).put (dstOf ops i) (if i = i then v else γ i)
        rw [if_pos rfl]
        unfold dstOf
        rw [hoi]
        rfl
      rw [hγ]
      refine ih _ _ _ _ (by simpa using hsz) ?_ ?_ ?_ ?_ (closed_set hcl hi) ?_ (hmono _ _ hS hb) ?_ ?_
      · rw [List.nodup_append]
        exact ⟨hLn, by simp, fun x hx y hy e => by simp at hy; exact hiL (hy ▸ e ▸ hx)⟩
      · intro x hx
        rcases List.mem_append.1 hx with h | h
        · exact hLv x h
        · simp at h; exact h ▸ hiv
      · intro x hx
        rw [listed_set (by rw [hsz]; exact hin), List.mem_append]
        by_cases hxi : x = i
        · subst hxi; simp
        · rw [if_neg hxi, ← hl x hx]; simp [hxi]
      · intro x hx
        have hxi : x ≠ i := fun e => (hok.v i hiv).2 (e ▸ hx)
        rw [listed_set (by rw [hsz]; exact hin), if_neg hxi]
        exact hbl x hx
      · have hlen : (vs.filter fun x => !(L ++ [i]).contains x).length < (vs.filter fun x => !L.contains x).length := by
          have hsub : (vs.filter fun x => !(L ++ [i]).contains x) = (vs.filter fun x => !L.contains x).filter fun x => x != i := by
            rw [List.filter_filter]
            congr 1
            funext x
            simp only [List.contains_eq_mem, List.mem_append, List.mem_singleton]
            by_cases h1 : x ∈ L <;> by_cases h2 : x = i <;> simp [h1, h2]
          rw [hsub]
          refine List.length_filter_lt_length_iff_exists.2 ⟨i, List.mem_filter.2 ⟨hiv, by simpa using hiL⟩, by simp⟩
        omega
      · intro x hx
        rcases List.mem_append.1 hx with h | h
        · have hxi : x ≠ i := fun e => hiL (e ▸ h)
          show Φ x w' (if x = i then v else γ x)
          rw [if_neg hxi]
          exact hΦ x w w' _ (hg x h) hb
        · simp at h
          subst h
          show Φ x w' (if x = x then v else γ x)
          rw [if_pos rfl]
          exact hv
      · intro x hx y hy hxy
        show T x y (if x = i then v else γ x) (if y = i then v else γ y)
        rcases List.mem_append.1 hx with h | h
        · have hxi : x ≠ i := fun e => hiL (e ▸ h)
          rw [if_neg hxi]
          rcases List.mem_append.1 hy with h2 | h2
          · have hyi : y ≠ i := fun e => hiL (e ▸ h2)
            rw [if_neg hyi]
            exact hT x h y h2 hxy
          · simp at h2
            subst h2
            rw [if_pos rfl]
            exact hTs _ _ _ _ (hvT x h)
        · simp at h
          subst h
          rw [if_pos rfl]
          rcases List.mem_append.1 hy with h2 | h2
          · have hyi : y ≠ x := fun e => hxy e.symm
            rw [if_neg hyi]
            exact hvT y h2
          · simp at h2
            exact absurd h2.symm hxy
    by_cases hpure : ∃ i ∈ ps, i ∈ Region.ready .any ops listed
    · obtain ⟨i, hip, hi⟩ := hpure
      have hiv := hok.p i hip
      have hoi := Array.getElem?_eq_getElem (hok.v i hiv).1
      obtain ⟨hiL, hdL, e1, e2⟩ := htrans i hiv _ hoi hi
      obtain ⟨o, v, ho, hy, hv, hvT⟩ := pure i hip γ w hS fun d hd => hg d (hdL d hd)
      rw [hoi] at ho
      cases ho
      exact wpAny_first hoi hs (fun c a w h => hQ c a w _ v h) fuel listed _ w (fun j oj hj hne hlj hno => hok.free i hip _ hoi j oj hj hne (fun e he hb heq => by
        obtain ⟨_, o', ho', hdeps⟩ := mem_ready.1 hi
        rw [hoi] at ho'
        cases ho'
        have h1 := hdeps e he hb
        rw [heq, ← getD_flip (by rw [hsz]; exact (Array.getElem?_eq_some_iff.1 hj).1), hlj] at h1
        cases h1) hno) hi (hy.of_same e1 e2) (hstep i hiv _ hoi hi hiL v w hv (fun j hj => hvT j _ (fun e => hiL (e ▸ hj)) (hg j hj) fun d hd hdj => hT d (hdL d hd) j hj hdj) (Below.refl _ _))
    have hno : ∀ i ∈ ps, i ∉ Region.ready .any ops listed := fun i hip hi => hpure ⟨i, hip, hi⟩
    refine ⟨fun hr => ?_, fun i hi => ?_⟩
    · exfalso
      apply hfull
      have : ∀ n i, i ≤ n → i ∈ vs → i ∈ L := by
        intro n
        induction n with
        | zero =>
          intro i hin hi
          false_or_by_contra
          rename_i hiL
          have hio := Array.getElem?_eq_getElem (hok.v i hi).1
          have hm : i ∈ Region.ready .any ops listed := mem_ready.2 ⟨by rw [getD_flip (by rw [hsz]; exact (hok.v i hi).1)]; have := fun h => hiL ((hl i hi).2 h); simpa using this, _, hio, fun e he hb => by
            have := ((hok.vd i hi _ hio).1 e he hb).2
            omega⟩
          rw [hr] at hm
          cases hm
        | succ n ihn =>
          intro i hin hi
          false_or_by_contra
          rename_i hiL
          have hio := Array.getElem?_eq_getElem (hok.v i hi).1
          have hm : i ∈ Region.ready .any ops listed := mem_ready.2 ⟨by rw [getD_flip (by rw [hsz]; exact (hok.v i hi).1)]; have := fun h => hiL ((hl i hi).2 h); simpa using this, _, hio, fun e he hb => by
            obtain ⟨h1, h2⟩ := (hok.vd i hi _ hio).1 e he hb
            exact (hl e.on h1).1 (ihn e.on (by omega) h1)⟩
          rw [hr] at hm
          cases hm
      exact fun i hi => this i i (Nat.le_refl _) hi
    · obtain ⟨h0, oi, hoi, hdeps⟩ := mem_ready.1 hi
      have hin : i < ops.size := (Array.getElem?_eq_some_iff.1 hoi).1
      rcases hok.all i hin with hiv | hib
      · obtain ⟨hiL, hdL, e1, e2⟩ := htrans i hiv oi hoi hi
        obtain ⟨o, ho, hop⟩ := need i hiv γ w hS fun d hd => hg d (hdL d hd)
        rw [hoi] at ho
        cases ho
        exact (hop.of_same e1 e2).wpOp hoi fun v w' hv hb => hstep i hiv oi hoi hi hiL v w' hv.1 (fun j hj => hv.2 j _ (fun e => hiL (e ▸ hj)) (hg j hj) fun d hd hdj => hT d (hdL d hd) j hj hdj) hb
      · exfalso
        apply hfull
        intro x hx
        obtain ⟨k, hk⟩ := List.getElem?_of_mem hib
        have hdl : ∀ y, direct oi y = true → listed.getD y false = true := fun y hy => by
          obtain ⟨e, he, hb, heq⟩ := direct_spec.1 hy
          have := hdeps e he hb
          rw [heq] at this
          exact this
        rcases (hok.bd k i hk oi hoi).2.2 x hx with hd | ⟨hxp, hd⟩
        · exact (hl x hx).2 (hdl x hd)
        · false_or_by_contra
          rename_i hxL
          have hxo := Array.getElem?_eq_getElem (hok.v x hx).1
          refine hno x hxp (mem_ready.2 ⟨by rw [getD_flip (by rw [hsz]; exact (hok.v x hx).1)]; have := fun h => hxL ((hl x hx).2 h); simpa using this, _, hxo, fun e he hb => ?_⟩)
          exact hdl _ (hd _ ((mem_depsOf hxo).2 ⟨((hok.vd x hx _ hxo).1 e he hb).1, e, he, hb, rfl⟩))

/-- Of the operations that i waits for: they stand to number j, whose value is u, as T asks. -/
def AllT (T : Nat → Nat → Value → Value → Prop) (γ : Nat → Value) (j : Nat) (u : Value) (l : List (Nat × Option Tmp)) : Prop := ∀ p ∈ l, p.1 ≠ j → T p.1 j (γ p.1) u
theorem allT_of {T : Nat → Nat → Value → Value → Prop} {γ : Nat → Value} {j : Nat} {u : Value} {l : List Nat} (h : ∀ d ∈ l, d ≠ j → T d j (γ d) u) : AllT T γ j u (l.map fun d => (d, dstOf ops d)) := fun p hp hne => by
  obtain ⟨d, hd, rfl⟩ := List.mem_map.1 hp
  exact h d hd hne
def NeedR (P : Program) (ops : Array Oper) (S : World → Prop) (Φ : Nat → World → Value → Prop) (T : Nat → Nat → Value → Value → Prop) (a0 : Act) : List Nat → List (List (Nat × Option Tmp)) → Prop
  | i :: r, d :: ds => (∀ (γ : Nat → Value) (w : World), S w → AllE Φ γ w d → ∃ o, ops[i]? = some o ∧ PredOp P ops o (fun w' v => Φ i w' v ∧ ∀ j u, j ≠ i → Φ j w u → AllT T γ j u d → T i j v u) (putE γ d a0) w) ∧ NeedR P ops S Φ T a0 r ds
  | _, _ => True
theorem needR_at {vs : List Nat} {Φ : Nat → World → Value → Prop} {T : Nat → Nat → Value → Value → Prop} {a0 : Act} : ∀ l : List Nat, NeedR P ops S Φ T a0 l (l.map fun i => (depsOf ops vs i).map fun d => (d, dstOf ops d)) → ∀ i ∈ l, ∀ (γ : Nat → Value) (w : World), S w → (∀ d ∈ depsOf ops vs i, Φ d w (γ d)) → ∃ o, ops[i]? = some o ∧ PredOp P ops o (fun w' v => Φ i w' v ∧ ∀ j u, j ≠ i → Φ j w u → (∀ d ∈ depsOf ops vs i, d ≠ j → T d j (γ d) u) → T i j v u) (putD ops γ (depsOf ops vs i) a0) w
  | [], _, _, hi => by cases hi
  | j :: r, h, i, hi => by
    rcases List.mem_cons.1 hi with rfl | hi
    · intro γ w hS hd
      obtain ⟨o, ho, hp⟩ := h.1 γ w hS (allE_eq _ hd)
      rw [putE_eq] at hp
      refine ⟨o, ho, hp.imp ?_⟩
      exact fun w' v h => ⟨h.1, fun j u hj hu hT => h.2 j u hj hu (allT_of hT)⟩
    · exact needR_at r h.2 i hi
def PureR (P : Program) (ops : Array Oper) (S : World → Prop) (Φ : Nat → World → Value → Prop) (T : Nat → Nat → Value → Value → Prop) (a0 : Act) : List Nat → List (List (Nat × Option Tmp)) → Prop
  | i :: r, d :: ds => (∀ (γ : Nat → Value) (w : World), S w → AllE Φ γ w d → ∃ o v, ops[i]? = some o ∧ Yields P ops o v (putE γ d a0) ∧ Φ i w v ∧ ∀ j u, j ≠ i → Φ j w u → AllT T γ j u d → T i j v u) ∧ PureR P ops S Φ T a0 r ds
  | _, _ => True
theorem pureR_at {vs : List Nat} {Φ : Nat → World → Value → Prop} {T : Nat → Nat → Value → Value → Prop} {a0 : Act} : ∀ l : List Nat, PureR P ops S Φ T a0 l (l.map fun i => (depsOf ops vs i).map fun d => (d, dstOf ops d)) → ∀ i ∈ l, ∀ (γ : Nat → Value) (w : World), S w → (∀ d ∈ depsOf ops vs i, Φ d w (γ d)) → ∃ o v, ops[i]? = some o ∧ Yields P ops o v (putD ops γ (depsOf ops vs i) a0) ∧ Φ i w v ∧ ∀ j u, j ≠ i → Φ j w u → (∀ d ∈ depsOf ops vs i, d ≠ j → T d j (γ d) u) → T i j v u
  | [], _, _, hi => by cases hi
  | j :: r, h, i, hi => by
    rcases List.mem_cons.1 hi with rfl | hi
    · intro γ w hS hd
      obtain ⟨o, v, ho, hp, hv, hT⟩ := h.1 γ w hS (allE_eq _ hd)
      rw [putE_eq] at hp
      exact ⟨o, v, ho, hp, hv, fun j u hj hu hd => hT j u hj hu (allT_of hd)⟩
    · exact pureR_at r h.2 i hi
/-- THE LAW. -/
theorem wp_region_predR {id : Nat} {a : Act} {w : World} (S : World → Prop) (vs ps bs : List Nat) (Φ : Nat → World → Value → Prop) (T : Nat → Nat → Value → Value → Prop) (dl pl : List (List (Nat × Option Tmp))) (al : List (Nat × Option Tmp)) (hm : P.follows .mixedOrders = true) (hs : Region.noSelect ops = true) (hok : partsOkQ ops vs ps bs = true) (hdst : dstsOk ops vs = true)
    (hdl : (vs.map fun i => (depsOf ops vs i).map fun d => (d, dstOf ops d)) = dl) (hpl : (ps.map fun i => (depsOf ops vs i).map fun d => (d, dstOf ops d)) = pl) (hal : (vs.map fun d => (d, dstOf ops d)) = al) (hbnd : bs.Nodup) (hlen : vs.length + bs.length ≤ ops.size) (hmono : Stays S)
    (hQ : ∀ c a w d v, Q (.panic c) (Act.put a d v) w → Q (.panic c) a w) (hTs : ∀ i j u v, T i j u v → T j i v u) (hΦ : ∀ i w w' v, Φ i w v → Below w.heap.size w w' → Φ i w' v) (hS : S w.drew)
    (need : NeedR P ops S Φ T a vs dl) (pure : PureR P ops S Φ T a ps pl)
    (hD : ∀ (γ : Nat → Value) (w : World), S w → AllE Φ γ w al → (∀ i ∈ vs, ∀ j ∈ vs, i ≠ j → T i j (γ i) (γ j)) → wpOps P ops Q bs (putE γ al a) w) : (Code.region id ops true).wp P Q a w := by
  have hl0 : ∀ i, (Array.replicate ops.size false).getD i false = false := fun i => by
    by_cases hi : i < ops.size <;> simp [hi]
  subst hdl hpl hal
  refine wp_region_any hm ?_
  exact wpAny_predR (Q := Q) hmono (Region.noSelect_spec hs) (partsQ_of hok) hdst hbnd hQ hΦ hTs (fun i hi γ wx hSx h => needR_at vs need i hi γ wx hSx h) (fun i hi γ wx hSx h => pureR_at ps pure i hi γ wx hSx h) (fun γ wx hSx h hT => by rw [← putE_eq]; exact hD γ wx hSx (allE_eq _ h) hT)
    ops.size (Array.replicate ops.size false) (fun _ => undef) [] w.drew (by simp) (by simp) (fun i hi => by cases hi) (fun i _ => by simp [hl0]) (fun i _ => hl0 i)
    (fun i o e hi => by rw [hl0] at hi; cases hi) (Nat.le_trans (Nat.add_le_add_right (List.length_filter_le _ _) _) hlen) hS (fun i hi => by cases hi) (fun i hi => by cases hi)
end
/-- The slice in a value does not lie in block g. -/
def Off (g : Nat) : Value → Prop
  | .slice (some a) _ _ => a.block ≠ g
  | .tuple #[_, .slice (some a) _ _, _] => a.block ≠ g
  | _ => True
/-- What number K makes stands apart from what the others hold. -/
abbrev Apt (K : Nat) (i j : Nat) (u v : Value) : Prop := (j = K → ∀ g, v = .pointer (some ⟨g, 0, none⟩) → Off g u) ∧ (i = K → ∀ g, u = .pointer (some ⟨g, 0, none⟩) → Off g v)
theorem Apt.symm (K : Nat) : ∀ i j u v, Apt K i j u v → Apt K j i v u := fun _ _ _ _ h => ⟨h.2, h.1⟩
end Go.Proofs.YtahmioiefmheeaaDoor

namespace Go.Proofs.YtahmioiefmheeaaDoor
open Go.RowKit

set_option maxRecDepth 100000 in
theorem results_rup {w : World} {g : Nat} {z : List Int} {q : Int} {tmps : Array Value} (h8 : tmps.getD 8 undef = .pointer (some ⟨g, 0, none⟩)) (h9 : tmps.getD 9 undef = .int .i64 q) (hr : Row w g 32 .u8 z) (hz : z.length = 16) :
    (results Tryd.f33 tmps).run Tryd.prog w = .ok (.tuple #[dgV z, .int .i64 q]) w := by
  rw [results_cell_tmp rfl]
  have hrun := run_loadVar_row (P := Tryd.prog) w g 32 32 _ (0, 0) _ hr Tryd.underlying32 rfl (cells49 hz)
  simp only [h8, h9, asAddr]
  show ((loadVar 32 ⟨g, 0, none⟩).run Tryd.prog w).andThen _ = _
  rw [hrun]
  rfl
set_option maxRecDepth 100000 in
set_option maxHeartbeats 2000000 in
theorem rup_any (d e s r : Int) (x : List Int) (m : Int) (w : World) (he : 0 ≤ e ∧ e < 4294967296) (hs : 0 ≤ s ∧ s < 4294967296) (hx : x.length = 16) (hxb : Bytes x) :
    Calls Tryd.prog 33 #[plV d e s, .int .i64 r, dgV x, .int .i64 m] w fun q w' => q = .returned (.tuple #[dgV (upS d e s r x m), .int .i64 (upF r m)]) ∧ Below w.heap.size w w' := by
  have HE := Kp.mk he
  have HS := Kp.mk hs
  have HX := Kp.mk hx
  have HXB := Kp.mk hxb
  clear he hs hx hxb
  obtain ⟨A, hA⟩ : ∃ A, A = w.heap.size := ⟨_, rfl⟩
  have HA := Kp.mk hA
  go_enter Tryd.func33, Tryd.ntmps33
  go_wp2_with fail
  rw [← hA]
  refine calls_world (fun W => Blk W A (.cells #[.int .i64 d, .int .u32 e, .int .u32 s] 48) ∧ Row W (A + 1) 32 .u8 x ∧ Row W (A + 1 + 1) 32 .u8 (fill 16 []) ∧ Below A w W) ⟨Blk.old (Blk.old (Blk.newAt _ hA) _) _, Blk.old (Blk.newAt _ (by simp [hA])) _, Blk.newAt _ (by rw [hA]; simp), by rw [hA]; exact more (more (more (Below.refl _ _) _) _) _⟩ ?_
  clear hA
  rintro W ⟨g1, g2, g3, g4⟩
  have G1 := Kp.mk g1
  have G2 := Kp.mk g2
  have G3 := Kp.mk g3
  have G4 := Kp.mk g4
  clear g1 g2 g3 g4
  refine (right_any r m W).mono ?_
  rintro q w1 ⟨rfl, e1⟩
  rw [e1]
  clear e1 w1
  cases hr : rightB r m with
  | false =>
    have HU : Kp (upS d e s r x m = fill 16 [] ∧ upF r m = 1) := ⟨by simp [upS, upF, hr]⟩
    have HZ0 : Kp ((fill 16 [] : List Int).length = 16) := ⟨rfl⟩
    have HF0 := Kp.mk (G3.out.setRow (fill 16 []))
    have HB0 := Kp.mk (Below.row G4.out (g := A + 1 + 1) (by omega) (kv .u8 (fill 16 [])).toArray)
    clear hr
    go_wp2_with (refine wpList_store_row rfl 32 (.tmp 8) (.tmp 16) rfl (A + 1 + 1) (kv .u8 (fill 16 [])).toArray rfl rfl 32 _ G3.out (cells49 HZ0.out) (size50 HZ0.out) (kv_all _ _) ?_)
    exact bodyPost_ret (results_rup rfl rfl HF0.out HZ0.out) rfl ⟨by rw [HU.out.1, HU.out.2], by rw [← HA.out]; exact HB0.out⟩
  | true =>
    have h0 : 0 ≤ lev m := by
      have := hr
      simp [rightB] at this
      exact this.2
    obtain ⟨k, hk⟩ : ∃ k : Nat, lev m = k := ⟨(lev m).toNat, by omega⟩
    obtain ⟨z, hz⟩ : ∃ z, z = nodeS d e s r x k 0 := ⟨_, rfl⟩
    obtain ⟨ts, hts⟩ : ∃ ts, ts = nodeT d e s r x k 0 := ⟨_, rfl⟩
    have HSl : Kp (z.length = 16) := ⟨by rw [hz]; exact nodeS_len _ _ _ _ _ _ _⟩
    have HC := Kp.mk (cells49 HSl.out)
    have HZ := Kp.mk (size50 HSl.out)
    have HU : Kp (upS d e s r x m = z ∧ upF r m = 0) := ⟨by
      have h2 : (lev m).toNat = k := by omega
      simp [upS, upF, hr, h2, hz]⟩
    have HK3 : Kp (k ≤ 3) := ⟨(lev_inv hk).2⟩
    have HK4 : Kp (((0 : Int) + 1) * 2 ^ k ≤ 8) := ⟨by have := HK3.out; rcases (show k = 0 ∨ k = 1 ∨ k = 2 ∨ k = 3 by omega) with rfl | rfl | rfl | rfl <;> decide⟩
    have HL := Kp.mk hk
    have HSe := Kp.mk hz
    have HTe := Kp.mk hts
    clear hz hts hr hk h0
    go_wp2_with fail
    refine wp_region_predQ (fun w' => Blk w' A (.cells #[.int .i64 d, .int .u32 e, .int .u32 s] 48) ∧ Row w' (A + 1) 32 .u8 x ∧ Row w' (A + 1 + 1) 32 .u8 (fill 16 []) ∧ Below A w w') [0, 1, 2, 3, 4, 5, 6, 7, 8, 9] [8] [10, 11]
      (fun ι w' v => match ι with
        | 0 => v = plV d e s
        | 1 => v = .int .i64 r
        | 2 => v = dgV x
        | 3 => v = .int .i64 m
        | 4 => v = .int .i64 k
        | 7 => v = dgV z
        | 5 => ∃ t, v = .tuple #[dgV z, t] ∧ HoldsP w' t ts
        | 6 => ∃ t, v = .tuple #[dgV z, t] ∧ HoldsP w' t ts
        | 8 => HoldsP w' v ts
        | 9 => ∃ g, v = .pointer (some ⟨g, 0, none⟩) ∧ A + 1 + 1 < g ∧ Row w' g 32 .u8 (fill 16 [])
        | _ => v = .bool true)
      [[], [], [], [], [(3, some 21)], [(0, some 18), (1, some 19), (2, some 20), (4, some 22)], [(5, some 23)], [(6, some 17)], [(6, some 17)], []]
      [[(6, some 17)]]
      [(0, some 18), (1, some 19), (2, some 20), (3, some 21), (4, some 22), (5, some 23), (6, some 17), (7, some 24), (8, some 25), (9, some 10)]
      (by kernel_rfl) (by kernel_rfl) (by kernel_rfl) (by kernel_rfl) (by kernel_rfl) (by kernel_rfl) (by kernel_rfl) (by decide) (by decide) (fun w1 w2 h hb => ⟨h.1.keep hb, h.2.1.keep hb, h.2.2.1.keep hb, h.2.2.2.trans (hb.mono (Nat.le_of_lt h.1.lt))⟩) (fun c a w d v h => by cases d <;> exact h) ?_ ⟨G1.out.draw, G2.out.drew, G3.out.drew, G4.out.drew⟩ ?_ ?_ ?_
    · intro ι w1 w2 v h hb
      by_cases h5 : ι = 5
      · subst h5
        exact (show ∃ t, _ ∧ HoldsP w2 t ts from (by obtain ⟨t, e, ht⟩ := h; exact ⟨t, e, ht.keep hb⟩))
      by_cases h6 : ι = 6
      · subst h6
        exact (show ∃ t, _ ∧ HoldsP w2 t ts from (by obtain ⟨t, e, ht⟩ := h; exact ⟨t, e, ht.keep hb⟩))
      by_cases h8 : ι = 8
      · subst h8
        exact HoldsP.keep h hb
      by_cases h9 : ι = 9
      · subst h9
        exact (by obtain ⟨g, e, h1, hg⟩ := h; exact ⟨g, e, h1, hg.keep hb⟩)
      match ι, h5, h6, h8, h9, h with
      | 0, _, _, _, _, h => exact h
      | 1, _, _, _, _, h => exact h
      | 2, _, _, _, _, h => exact h
      | 3, _, _, _, _, h => exact h
      | 4, _, _, _, _, h => exact h
      | 5, g, _, _, _, h => exact absurd rfl g
      | 6, _, g, _, _, h => exact absurd rfl g
      | 7, _, _, _, _, h => exact h
      | 8, _, _, g, _, h => exact absurd rfl g
      | 9, _, _, _, g, h => exact absurd rfl g
      | _ + 10, _, _, _, _, h => exact h
    · refine ⟨fun γ wx hS h => ?_, fun γ wx hS h => ?_, fun γ wx hS h => ?_, fun γ wx hS h => ?_, fun γ wx hS h => ?_, fun γ wx hS h => ?_, fun γ wx hS h => ?_, fun γ wx hS h => ?_, fun γ wx hS h => ?_, fun γ wx hS h => ?_, trivial⟩
      · refine ⟨_, rfl, Or.inl ⟨rfl, predRun_value (exec_load_blk 48 (.tmp 4) rfl (A) rfl 48 _ (0, 0) _ hS.1 Tryd.underlying48 rfl (cells48 d e s)) rfl⟩⟩
      · refine ⟨_, rfl, Or.inl ⟨rfl, predRun_value (v := .int .i64 r) (by simp only [putE]; first | rfl | (go_simp; done) | (go_simp; with_reducible rfl) | (go_simp; rfl)) rfl⟩⟩
      · refine ⟨_, rfl, Or.inl ⟨rfl, predRun_value (exec_load_blk 32 (.tmp 6) rfl (A + 1) rfl 32 _ (0, 0) _ hS.2.1 Tryd.underlying32 rfl (cells49 HX.out)) rfl⟩⟩
      · refine ⟨_, rfl, Or.inl ⟨rfl, predRun_value (v := .int .i64 m) (by simp only [putE]; first | rfl | (go_simp; done) | (go_simp; with_reducible rfl) | (go_simp; rfl)) rfl⟩⟩
      · have h3 := h
        have e3 : γ 3 = .int .i64 m := h3
        refine ⟨_, rfl, Or.inl ⟨rfl, predRun_call (f := 41) (args := #[.int .i64 m]) (by simp only [putE, e3]; go_simp) ?_⟩⟩
        exact (rlevels_any m wx).mono fun e w2 ⟨h1, h2⟩ => ⟨_, h1, by show Value.int .i64 (lev m) = _; rw [HL.out], h2 ▸ Below.refl _ _⟩
      · obtain ⟨h0, h1, h2, h4⟩ := h
        have e0 : γ 0 = plV d e s := h0
        have e1 : γ 1 = .int .i64 r := h1
        have e2 : γ 2 = dgV x := h2
        have e4 : γ 4 = .int .i64 k := h4
        refine ⟨_, rfl, Or.inl ⟨rfl, predRun_call (f := 52) (args := #[plV d e s, .int .i64 r, dgV x, .int .i64 k, .int .i64 0]) (by simp only [putE, e0, e1, e2, e4]; go_simp) ?_⟩⟩
        exact (node_any d e s r x HE.out HS.out HX.out HXB.out k 0 wx HK3.out (by omega) HK4.out).mono fun e w2 ⟨v', h1, h2, h3⟩ => ⟨_, h1, ⟨v', by rw [HSe.out], by rw [HTe.out]; exact h2⟩, h3⟩
      · have h5 := h
        have p5 : ∃ t, (γ 5) = .tuple #[dgV z, t] ∧ HoldsP wx t ts := h5
        obtain ⟨t, e4, ht⟩ := p5
        refine ⟨_, rfl, Or.inl ⟨rfl, predRun_value (v := .tuple #[dgV z, t]) (by simp only [putE, e4]; first | rfl | (go_simp; done) | (go_simp; rfl)) ⟨t, rfl, ht⟩⟩⟩
      · have h6 := h
        have p6 : ∃ t, (γ 6) = .tuple #[dgV z, t] ∧ HoldsP wx t ts := h6
        obtain ⟨t, e5, ht⟩ := p6
        refine ⟨_, rfl, Or.inl ⟨rfl, predRun_value (v := dgV z) (by simp only [putE, e5]; first | rfl | (go_simp; done) | (go_simp; rfl)) rfl⟩⟩
      · have h6 := h
        have p6 : ∃ t, (γ 6) = .tuple #[dgV z, t] ∧ HoldsP wx t ts := h6
        obtain ⟨t, e5, ht⟩ := p6
        refine ⟨_, rfl, Or.inl ⟨rfl, predRun_value (v := t) (by simp only [putE, e5]; first | rfl | (go_simp; done) | (go_simp; rfl)) ht⟩⟩
      · refine ⟨_, rfl, Or.inl ⟨rfl, predRun_new (w' := wx.alloc z49) (v := .pointer (some ⟨wx.heap.size, 0, none⟩)) (by simp only [putE]; first | rfl | (go_simp; done) | (go_simp; rfl)) (more (Below.refl _ _) _) ⟨_, rfl, hS.2.2.1.lt, Blk.new _ _⟩⟩⟩
    · refine ⟨fun γ wx hS h => ?_, trivial⟩
      · have h6 := h
        have p6 : ∃ t, (γ 6) = .tuple #[dgV z, t] ∧ HoldsP wx t ts := h6
        obtain ⟨t, e5, ht⟩ := p6
        refine ⟨_, t, rfl, Or.inl ⟨rfl, fun wz => by simp only [putE, e5]; first | rfl | (go_simp; done) | (go_simp; rfl)⟩, ht⟩
    · intro γ w9 hS h
      have p8 : HoldsP w9 (γ 8) ts := h.2.2.2.2.2.2.2.2.1
      have e7 : γ 7 = dgV z := h.2.2.2.2.2.2.2.1
      obtain ⟨g, e9, hAg, hg⟩ : ∃ g, γ 9 = .pointer (some ⟨g, 0, none⟩) ∧ A + 1 + 1 < g ∧ Row w9 g 32 .u8 (fill 16 []) := h.2.2.2.2.2.2.2.2.2
      obtain ⟨a, n, cp, e8, hn⟩ := p8.slice
      simp only [putE, Act.put, List.setIfInBounds_toArray, List.set_cons_zero, List.set_cons_succ]
      rw [e7, e8, e9]
      have HGA : Kp (Row w9 g 32 .u8 (fill 16 [])) := ⟨hg⟩
      obtain ⟨W9, hW9⟩ : ∃ W9, W9 = w9.setRow g (kv .u8 z).toArray := ⟨_, rfl⟩
      have F1 : Kp (Row W9 g 32 .u8 z) := ⟨by rw [hW9]; exact HGA.out.setRow z⟩
      have F3 : Kp (Row W9 (A + 1 + 1) 32 .u8 (fill 16 [])) := ⟨by rw [hW9]; exact Row.otherRow hS.2.2.1 (by omega) _⟩
      have F4 : Kp (Below A w W9) := ⟨by rw [hW9]; exact Below.row hS.2.2.2 (by omega) _⟩
      have HWk := Kp.mk hW9
      clear h hS e7 e8 e9 p8 hg G1 G2 G3 G4 hW9
      refine wpOps_step rfl rfl ?_
      refine wp_store_row 32 (.tmp 10) (.tmp 24) rfl g (kv .u8 z).toArray rfl rfl 32 _ HGA.out HC.out HZ.out (kv_all _ _) ?_
      rw [← HWk.out]
      clear HWk HGA
      refine wpOps_step rfl rfl ?_
      refine wp_assign_end rfl rfl ?_
      refine wpOps_done ?_
      have HF := Kp.mk (F3.out.setRow z)
      have HBf := Kp.mk (Below.row F4.out (g := A + 1 + 1) (by omega) (kv .u8 z).toArray)
      go_wp2_with first
        | (refine wpList_load_row rfl 32 (.tmp 10) rfl g rfl 32 (kv .u8 z).toArray (0, 0) _ F1.out Tryd.underlying32 rfl HC.out ?_)
        | (refine wpList_store_row rfl 32 (.tmp 8) (.tmp 26) rfl (A + 1 + 1) (kv .u8 z).toArray rfl rfl 32 _ F3.out HC.out HZ.out (kv_all _ _) ?_)
      exact bodyPost_ret (results_rup rfl rfl HF.out HSl.out) rfl ⟨by rw [HU.out.1, HU.out.2], by rw [← HA.out]; exact HBf.out⟩
end Go.Proofs.YtahmioiefmheeaaDoor

namespace Go.Proofs.YtahmioiefmheeaaDoor
open Go.RowKit

/-- So many rungs higher. -/
def climbL (d e s : Int) (k : Nat) (x : List Int) (f : Int) : Nat → List Int
  | 0 => x
  | i + 1 => nodeS d e s (f + i) (climbL d e s k x f i) k 0
theorem climbL_len (d e s : Int) (k : Nat) (x : List Int) (f : Int) (hx : x.length = 16) : ∀ i, (climbL d e s k x f i).length = 16
  | 0 => hx
  | _ + 1 => nodeS_len _ _ _ _ _ _ _
theorem climbL_bytes (d e s : Int) (k : Nat) (x : List Int) (f : Int) (hx : Bytes x) : ∀ i, Bytes (climbL d e s k x f i)
  | 0 => hx
  | _ + 1 => nodeS_bytes _ _ _ _ _ _ _
theorem climbL_add (d e s : Int) (k : Nat) (x : List Int) (f : Int) (i : Nat) : ∀ j, climbL d e s k (climbL d e s k x f i) (f + i) j = climbL d e s k x f (i + j)
  | 0 => rfl
  | j + 1 => by
    rw [climbL, climbL_add d e s k x f i j]
    show _ = climbL d e s k x f ((i + j) + 1)
    rw [climbL, show f + (i : Int) + (j : Int) = f + ((i + j : Nat) : Int) by omega]
/-- May one climb so? -/
def climbOk (f t m : Int) : Bool := decide (0 ≤ f) && decide (t ≤ 16) && decide (f ≤ t) && decide (0 ≤ lev m)
theorem climbOk_spec {f t m : Int} : climbOk f t m = true ↔ 0 ≤ f ∧ t ≤ 16 ∧ f ≤ t ∧ 0 ≤ lev m := by
  simp [climbOk, and_assoc]
def climbS (d e s : Int) (x : List Int) (f t m : Int) : List Int := if climbOk f t m then climbL d e s (lev m).toNat x f (t - f).toNat else fill 16 []
def climbF (f t m : Int) : Int := if climbOk f t m then 0 else 1
theorem climbS_len (d e s : Int) (x : List Int) (f t m : Int) (hx : x.length = 16) : (climbS d e s x f t m).length = 16 := by
  unfold climbS
  split
  · exact climbL_len _ _ _ _ _ _ hx _
  · rfl
theorem climbS_bytes (d e s : Int) (x : List Int) (f t m : Int) (hx : Bytes x) : Bytes (climbS d e s x f t m) := by
  unfold climbS
  split
  · exact climbL_bytes _ _ _ _ _ _ hx _
  · exact fill_bytes (fun x hx => by simp at hx)
set_option maxRecDepth 100000 in
theorem results_climb {w : World} {g : Nat} {z : List Int} {q : Int} {tmps : Array Value} (h8 : tmps.getD 10 undef = .pointer (some ⟨g, 0, none⟩)) (h9 : tmps.getD 11 undef = .int .i64 q) (hr : Row w g 33 .u8 z) (hz : z.length = 16) :
    (results Tryd.f42 tmps).run Tryd.prog w = .ok (.tuple #[dgV z, .int .i64 q]) w := by
  rw [results_cell_tmp rfl]
  have hrun := run_loadVar_row (P := Tryd.prog) w g 33 33 _ (0, 0) _ hr Tryd.underlying33 rfl (cells50 hz)
  simp only [h8, h9, asAddr]
  show ((loadVar 33 ⟨g, 0, none⟩).run Tryd.prog w).andThen _ = _
  rw [hrun]
  rfl
set_option maxRecDepth 100000 in
theorem results_rclimb {w : World} {g : Nat} {z : List Int} {q : Int} {tmps : Array Value} (h8 : tmps.getD 10 undef = .pointer (some ⟨g, 0, none⟩)) (h9 : tmps.getD 11 undef = .int .i64 q) (hr : Row w g 32 .u8 z) (hz : z.length = 16) :
    (results Tryd.f43 tmps).run Tryd.prog w = .ok (.tuple #[dgV z, .int .i64 q]) w := by
  rw [results_cell_tmp rfl]
  have hrun := run_loadVar_row (P := Tryd.prog) w g 32 32 _ (0, 0) _ hr Tryd.underlying32 rfl (cells49 hz)
  simp only [h8, h9, asAddr]
  show ((loadVar 32 ⟨g, 0, none⟩).run Tryd.prog w).andThen _ = _
  rw [hrun]
  rfl
set_option maxRecDepth 100000 in
set_option maxHeartbeats 2000000 in
theorem climb_any (d e s : Int) (x : List Int) (f t m : Int) (w : World) (hk : KonIs w) (he : 0 ≤ e ∧ e < 4294967296) (hs : 0 ≤ s ∧ s < 4294967296) (hx : x.length = 16) (hxb : Bytes x) :
    Calls Tryd.prog 42 #[plV d e s, dgV x, .int .i64 f, .int .i64 t, .int .i64 m] w fun q w' => q = .returned (.tuple #[dgV (climbS d e s x f t m), .int .i64 (climbF f t m)]) ∧ Below w.heap.size w w' := by
  have HK := Kp.mk hk
  clear hk
  have HE := Kp.mk he
  have HS := Kp.mk hs
  have HX := Kp.mk hx
  have HXB := Kp.mk hxb
  clear he hs hx hxb
  have HZ0 : Kp ((fill 16 [] : List Int).length = 16) := ⟨rfl⟩
  go_enter Tryd.func42, Tryd.ntmps42
  by_cases c1 : f < 0
  · have HU : Kp (climbS d e s x f t m = fill 16 [] ∧ climbF f t m = 1) := ⟨by
      have : climbOk f t m = false := by
        cases h : climbOk f t m
        · rfl
        · have := climbOk_spec.1 h; omega
      simp [climbS, climbF, this]⟩
    go_wp2_with (refine wpList_store_row rfl 33 (.tmp 10) (.tmp 29) rfl (w.heap.size + 1 + 1) (kv .u8 (fill 16 [])).toArray rfl rfl 33 _ (Blk.newAt _ (by simp)) (cells50 HZ0.out) (size50 HZ0.out) (kv_all _ _) ?_)
    exact bodyPost_ret (results_climb rfl rfl (Row.setRow (k := .u8) (l := fill 16 []) (Blk.newAt _ (by simp)) _) HZ0.out) rfl ⟨by rw [HU.out.1, HU.out.2], Below.row (more (more (more (Below.refl _ _) _) _) _) (by omega) _⟩
  by_cases c2 : 16 < t
  · have HU : Kp (climbS d e s x f t m = fill 16 [] ∧ climbF f t m = 1) := ⟨by
      have : climbOk f t m = false := by
        cases h : climbOk f t m
        · rfl
        · have := climbOk_spec.1 h; omega
      simp [climbS, climbF, this]⟩
    go_wp2_with (refine wpList_store_row rfl 33 (.tmp 10) (.tmp 29) rfl (w.heap.size + 1 + 1) (kv .u8 (fill 16 [])).toArray rfl rfl 33 _ (Blk.newAt _ (by simp)) (cells50 HZ0.out) (size50 HZ0.out) (kv_all _ _) ?_)
    exact bodyPost_ret (results_climb rfl rfl (Row.setRow (k := .u8) (l := fill 16 []) (Blk.newAt _ (by simp)) _) HZ0.out) rfl ⟨by rw [HU.out.1, HU.out.2], Below.row (more (more (more (Below.refl _ _) _) _) _) (by omega) _⟩
  by_cases c3 : t < f
  · have HU : Kp (climbS d e s x f t m = fill 16 [] ∧ climbF f t m = 1) := ⟨by
      have : climbOk f t m = false := by
        cases h : climbOk f t m
        · rfl
        · have := climbOk_spec.1 h; omega
      simp [climbS, climbF, this]⟩
    go_wp2_with (refine wpList_store_row rfl 33 (.tmp 10) (.tmp 29) rfl (w.heap.size + 1 + 1) (kv .u8 (fill 16 [])).toArray rfl rfl 33 _ (Blk.newAt _ (by simp)) (cells50 HZ0.out) (size50 HZ0.out) (kv_all _ _) ?_)
    exact bodyPost_ret (results_climb rfl rfl (Row.setRow (k := .u8) (l := fill 16 []) (Blk.newAt _ (by simp)) _) HZ0.out) rfl ⟨by rw [HU.out.1, HU.out.2], Below.row (more (more (more (Below.refl _ _) _) _) _) (by omega) _⟩
  obtain ⟨A, hA⟩ : ∃ A, A = w.heap.size := ⟨_, rfl⟩
  have HA := Kp.mk hA
  go_wp2_with fail
  rw [← hA]
  refine calls_world (fun W => Blk W A (.cells #[.int .i64 d, .int .u32 e, .int .u32 s] 51) ∧ Row W (A + 1) 33 .u8 x ∧ Row W (A + 1 + 1) 33 .u8 (fill 16 []) ∧ Below A w W) ⟨Blk.old (Blk.old (Blk.newAt _ hA) _) _, Blk.old (Blk.newAt _ (by simp [hA])) _, Blk.newAt _ (by rw [hA]; simp), by rw [hA]; exact more (more (more (Below.refl _ _) _) _) _⟩ ?_
  clear hA
  rintro W ⟨g1, g2, g3, g4⟩
  have G1 := Kp.mk g1
  have G2 := Kp.mk g2
  have G3 := Kp.mk g3
  have G4 := Kp.mk g4
  clear g1 g2 g3 g4
  have HF0 := Kp.mk (G3.out.setRow (fill 16 []))
  have HB0 := Kp.mk (Below.row G4.out (g := A + 1 + 1) (by omega) (kv .u8 (fill 16 [])).toArray)
  refine (levels_any m W).mono ?_
  rintro q w1 ⟨rfl, e1⟩
  rw [e1]
  clear e1 w1
  by_cases h0 : lev m < 0
  · have HU : Kp (climbS d e s x f t m = fill 16 [] ∧ climbF f t m = 1) := ⟨by
      have : climbOk f t m = false := by
        cases h : climbOk f t m
        · rfl
        · have := climbOk_spec.1 h; omega
      simp [climbS, climbF, this]⟩
    generalize lev m = L at h0 ⊢
    go_wp2_with (refine wpList_store_row rfl 33 (.tmp 10) (.tmp 29) rfl (A + 1 + 1) (kv .u8 (fill 16 [])).toArray rfl rfl 33 _ G3.out (cells50 HZ0.out) (size50 HZ0.out) (kv_all _ _) ?_)
    exact bodyPost_ret (results_climb rfl rfl HF0.out HZ0.out) rfl ⟨by rw [HU.out.1, HU.out.2], by rw [← HA.out]; exact HB0.out⟩
  obtain ⟨k, hk⟩ : ∃ k : Nat, lev m = k := ⟨(lev m).toNat, by omega⟩
  obtain ⟨n, hn⟩ : ∃ n : Nat, t - f = n := ⟨(t - f).toNat, by omega⟩
  have hn16 : n ≤ 16 := by omega
  have HLv := Kp.mk hk
  have HM := Kp.mk (lev_inv hk)
  have HU : Kp (climbS d e s x f t m = climbL d e s k x f n ∧ climbF f t m = 0) := ⟨by
    have h : climbOk f t m = true := climbOk_spec.2 (by omega)
    have h2 : (lev m).toNat = k := by omega
    have h3 : (t - f).toNat = n := by omega
    simp [climbS, climbF, h, h2, h3]⟩
  rw [hk]
  clear h0 hk HF0 HB0
  go_wp2_with fail
  go_loopw [33] (fun c wr => ∃ i : Nat, i ≤ n ∧ c = .int .i64 i ∧ Blk wr A (.cells #[.int .i64 d, .int .u32 e, .int .u32 s] 51) ∧ Row wr (A + 1) 33 .u8 (climbL d e s k x f i) ∧ Row wr (A + 1 + 1) 33 .u8 (fill 16 []) ∧ Below A w wr) (fun c _ => n - (intOf c).toNat)
  case atStart => exact ⟨0, by omega, rfl, G1.out, G2.out, G3.out, G4.out⟩
  case round =>
    obtain ⟨i, hi, rfl, g1, g2, g3, g4⟩ := hrel
    clear G1 G2 G3 G4
    have G1 := Kp.mk g1
    have G2 := Kp.mk g2
    have G3 := Kp.mk g3
    have G4 := Kp.mk g4
    clear g1 g2 g3 g4
    have HYl := Kp.mk (climbL_len d e s k x f HX.out i)
    have HYb := Kp.mk (climbL_bytes d e s k x f HXB.out i)
    by_cases hlt : i < n
    · have HNx : Kp (∀ w1, Below w.heap.size w w1 → Calls Tryd.prog 96 #[plV d e s, .int .i64 (f + i), dgV (climbL d e s k x f i), .int .i64 m] w1 fun q w' => q = .returned (dgV (climbL d e s k x f (i + 1))) ∧ Below w1.heap.size w1 w') := ⟨fun w1 hb => by
        rw [HM.out.1]
        exact next_any d e s (f + i) (climbL d e s k x f i) k (2 ^ k) w1 (HK.out.keep hb) HE.out HS.out HYl.out HYb.out HM.out.2 rfl⟩
      have HZl := Kp.mk (climbL_len d e s k x f HX.out (i + 1))
      obtain ⟨y, hy⟩ : ∃ y, y = climbL d e s k x f i := ⟨_, rfl⟩
      obtain ⟨z, hz⟩ : ∃ z, z = climbL d e s k x f (i + 1) := ⟨_, rfl⟩
      rw [← hy, ← hz] at HNx
      rw [← hy] at G2 HYl
      rw [← hz] at HZl
      have HZe := Kp.mk hz
      clear hy hz HYb
      go_wp2_with first
        | (refine wpList_load_row rfl 51 (.tmp 5) rfl A rfl 51 _ (0, 0) _ G1.out Tryd.underlying51 rfl (cells51 d e s) ?_)
        | (refine wpList_load_row rfl 33 (.tmp 6) rfl (A + 1) rfl 33 _ (0, 0) _ G2.out Tryd.underlying33 rfl (cells50 HYl.out) ?_)
      refine (HNx.out wr (by rw [← HA.out]; exact G4.out)).mono ?_
      rintro q w1 ⟨rfl, hb⟩
      have F1 := Kp.mk (G1.out.keep hb)
      have F2 := Kp.mk (G2.out.keep hb)
      have F3 := Kp.mk (G3.out.keep hb)
      have F4 : Kp (Below A w w1) := ⟨G4.out.trans (hb.mono (Nat.le_of_lt G1.out.lt))⟩
      clear hb G1 G2 G3 G4
      go_wp2_with (refine wpList_store_row rfl 33 (.tmp 6) (.tmp 42) rfl (A + 1) (kv .u8 z).toArray rfl rfl 33 _ F2.out (cells50 HZl.out) (by rw [kv_size, kv_size, HYl.out, HZl.out]) (kv_all _ _) ?_)
      exact ⟨⟨i + 1, by omega, by go_num, (setRow_other _ (A + 1) A _ (by omega)).trans F1.out, by rw [← HZe.out]; exact F2.out.setRow z, Row.otherRow F3.out (by omega) _, Below.row F4.out (by omega) _⟩, by simp [intOf]; omega⟩
    · have hi' : i = n := by omega
      subst hi'
      obtain ⟨y, hy⟩ : ∃ y, y = climbL d e s k x f i := ⟨_, rfl⟩
      rw [← hy] at G2 HYl HU
      clear hy HYb
      have HF := Kp.mk (G3.out.setRow y)
      have HBf := Kp.mk (Below.row G4.out (g := A + 1 + 1) (by omega) (kv .u8 y).toArray)
      go_wp2_with first
        | (refine wpList_load_row rfl 33 (.tmp 6) rfl (A + 1) rfl 33 _ (0, 0) _ G2.out Tryd.underlying33 rfl (cells50 HYl.out) ?_)
        | (refine wpList_store_row rfl 33 (.tmp 10) (.tmp 44) rfl (A + 1 + 1) (kv .u8 y).toArray rfl rfl 33 _ G3.out (cells50 HYl.out) (size50 HYl.out) (kv_all _ _) ?_)
      exact bodyPost_ret (results_climb rfl rfl HF.out HYl.out) rfl ⟨by rw [HU.out.1, HU.out.2], by rw [← HA.out]; exact HBf.out⟩
set_option maxRecDepth 100000 in
set_option maxHeartbeats 2000000 in
theorem rclimb_any (d e s : Int) (x : List Int) (f t m : Int) (w : World) (he : 0 ≤ e ∧ e < 4294967296) (hs : 0 ≤ s ∧ s < 4294967296) (hx : x.length = 16) (hxb : Bytes x) :
    Calls Tryd.prog 43 #[plV d e s, dgV x, .int .i64 f, .int .i64 t, .int .i64 m] w fun q w' => q = .returned (.tuple #[dgV (climbS d e s x f t m), .int .i64 (climbF f t m)]) ∧ Below w.heap.size w w' := by
  have HE := Kp.mk he
  have HS := Kp.mk hs
  have HX := Kp.mk hx
  have HXB := Kp.mk hxb
  clear he hs hx hxb
  have HZ0 : Kp ((fill 16 [] : List Int).length = 16) := ⟨rfl⟩
  go_enter Tryd.func43, Tryd.ntmps43
  by_cases c1 : f < 0
  · have HU : Kp (climbS d e s x f t m = fill 16 [] ∧ climbF f t m = 1) := ⟨by
      have : climbOk f t m = false := by
        cases h : climbOk f t m
        · rfl
        · have := climbOk_spec.1 h; omega
      simp [climbS, climbF, this]⟩
    go_wp2_with (refine wpList_store_row rfl 32 (.tmp 10) (.tmp 31) rfl (w.heap.size + 1 + 1) (kv .u8 (fill 16 [])).toArray rfl rfl 32 _ (Blk.newAt _ (by simp)) (cells49 HZ0.out) (size50 HZ0.out) (kv_all _ _) ?_)
    exact bodyPost_ret (results_rclimb rfl rfl (Row.setRow (k := .u8) (l := fill 16 []) (Blk.newAt _ (by simp)) _) HZ0.out) rfl ⟨by rw [HU.out.1, HU.out.2], Below.row (more (more (more (Below.refl _ _) _) _) _) (by omega) _⟩
  by_cases c2 : 16 < t
  · have HU : Kp (climbS d e s x f t m = fill 16 [] ∧ climbF f t m = 1) := ⟨by
      have : climbOk f t m = false := by
        cases h : climbOk f t m
        · rfl
        · have := climbOk_spec.1 h; omega
      simp [climbS, climbF, this]⟩
    go_wp2_with (refine wpList_store_row rfl 32 (.tmp 10) (.tmp 31) rfl (w.heap.size + 1 + 1) (kv .u8 (fill 16 [])).toArray rfl rfl 32 _ (Blk.newAt _ (by simp)) (cells49 HZ0.out) (size50 HZ0.out) (kv_all _ _) ?_)
    exact bodyPost_ret (results_rclimb rfl rfl (Row.setRow (k := .u8) (l := fill 16 []) (Blk.newAt _ (by simp)) _) HZ0.out) rfl ⟨by rw [HU.out.1, HU.out.2], Below.row (more (more (more (Below.refl _ _) _) _) _) (by omega) _⟩
  by_cases c3 : t < f
  · have HU : Kp (climbS d e s x f t m = fill 16 [] ∧ climbF f t m = 1) := ⟨by
      have : climbOk f t m = false := by
        cases h : climbOk f t m
        · rfl
        · have := climbOk_spec.1 h; omega
      simp [climbS, climbF, this]⟩
    go_wp2_with (refine wpList_store_row rfl 32 (.tmp 10) (.tmp 31) rfl (w.heap.size + 1 + 1) (kv .u8 (fill 16 [])).toArray rfl rfl 32 _ (Blk.newAt _ (by simp)) (cells49 HZ0.out) (size50 HZ0.out) (kv_all _ _) ?_)
    exact bodyPost_ret (results_rclimb rfl rfl (Row.setRow (k := .u8) (l := fill 16 []) (Blk.newAt _ (by simp)) _) HZ0.out) rfl ⟨by rw [HU.out.1, HU.out.2], Below.row (more (more (more (Below.refl _ _) _) _) _) (by omega) _⟩
  obtain ⟨A, hA⟩ : ∃ A, A = w.heap.size := ⟨_, rfl⟩
  have HA := Kp.mk hA
  go_wp2_with fail
  rw [← hA]
  refine calls_world (fun W => Blk W A (.cells #[.int .i64 d, .int .u32 e, .int .u32 s] 48) ∧ Row W (A + 1) 32 .u8 x ∧ Row W (A + 1 + 1) 32 .u8 (fill 16 []) ∧ Below A w W) ⟨Blk.old (Blk.old (Blk.newAt _ hA) _) _, Blk.old (Blk.newAt _ (by simp [hA])) _, Blk.newAt _ (by rw [hA]; simp), by rw [hA]; exact more (more (more (Below.refl _ _) _) _) _⟩ ?_
  clear hA
  rintro W ⟨g1, g2, g3, g4⟩
  have G1 := Kp.mk g1
  have G2 := Kp.mk g2
  have G3 := Kp.mk g3
  have G4 := Kp.mk g4
  clear g1 g2 g3 g4
  have HF0 := Kp.mk (G3.out.setRow (fill 16 []))
  have HB0 := Kp.mk (Below.row G4.out (g := A + 1 + 1) (by omega) (kv .u8 (fill 16 [])).toArray)
  refine (rlevels_any m W).mono ?_
  rintro q w1 ⟨rfl, e1⟩
  rw [e1]
  clear e1 w1
  by_cases h0 : lev m < 0
  · have HU : Kp (climbS d e s x f t m = fill 16 [] ∧ climbF f t m = 1) := ⟨by
      have : climbOk f t m = false := by
        cases h : climbOk f t m
        · rfl
        · have := climbOk_spec.1 h; omega
      simp [climbS, climbF, this]⟩
    generalize lev m = L at h0 ⊢
    go_wp2_with (refine wpList_store_row rfl 32 (.tmp 10) (.tmp 31) rfl (A + 1 + 1) (kv .u8 (fill 16 [])).toArray rfl rfl 32 _ G3.out (cells49 HZ0.out) (size50 HZ0.out) (kv_all _ _) ?_)
    exact bodyPost_ret (results_rclimb rfl rfl HF0.out HZ0.out) rfl ⟨by rw [HU.out.1, HU.out.2], by rw [← HA.out]; exact HB0.out⟩
  obtain ⟨k, hk⟩ : ∃ k : Nat, lev m = k := ⟨(lev m).toNat, by omega⟩
  obtain ⟨n, hn⟩ : ∃ n : Nat, t - f = n := ⟨(t - f).toNat, by omega⟩
  have hn16 : n ≤ 16 := by omega
  have HLv := Kp.mk hk
  have HM := Kp.mk (lev_inv hk)
  have HU : Kp (climbS d e s x f t m = climbL d e s k x f n ∧ climbF f t m = 0) := ⟨by
    have h : climbOk f t m = true := climbOk_spec.2 (by omega)
    have h2 : (lev m).toNat = k := by omega
    have h3 : (t - f).toNat = n := by omega
    simp [climbS, climbF, h, h2, h3]⟩
  rw [hk]
  clear h0 hk HF0 HB0
  go_wp2_with fail
  go_loopw [12] (fun c wr => ∃ i : Nat, i ≤ n ∧ c = .int .i64 (f + i) ∧ Blk wr A (.cells #[.int .i64 d, .int .u32 e, .int .u32 s] 48) ∧ Row wr (A + 1) 32 .u8 (climbL d e s k x f i) ∧ Row wr (A + 1 + 1) 32 .u8 (fill 16 []) ∧ Below A w wr) (fun c _ => (t - intOf c).toNat)
  case atStart => exact ⟨0, by omega, by simp, G1.out, G2.out, G3.out, G4.out⟩
  case round =>
    obtain ⟨i, hi, rfl, g1, g2, g3, g4⟩ := hrel
    clear G1 G2 G3 G4
    have G1 := Kp.mk g1
    have G2 := Kp.mk g2
    have G3 := Kp.mk g3
    have G4 := Kp.mk g4
    clear g1 g2 g3 g4
    have HYl := Kp.mk (climbL_len d e s k x f HX.out i)
    have HYb := Kp.mk (climbL_bytes d e s k x f HXB.out i)
    obtain ⟨j, hj⟩ : ∃ j, j = f + (i : Int) := ⟨_, rfl⟩
    have HJ := Kp.mk hj
    by_cases hlt : i < n
    · have hjt : j < t := by omega
      have hj0 : 0 ≤ j := by omega
      have HNx : Kp (∀ w1, Calls Tryd.prog 33 #[plV d e s, .int .i64 j, dgV (climbL d e s k x f i), .int .i64 m] w1 fun q w' => q = .returned (.tuple #[dgV (climbL d e s k x f (i + 1)), .int .i64 0]) ∧ Below w1.heap.size w1 w') := ⟨fun w1 => (rup_any d e s j (climbL d e s k x f i) m w1 HE.out HS.out HYl.out HYb.out).mono (by
        rintro q w' ⟨h1, h2⟩
        refine ⟨?_, h2⟩
        have hr : rightB j m = true := by
          have := HLv.out
          simp [rightB, rungB]
          omega
        have hL : (lev m).toNat = k := by have := HLv.out; omega
        rw [h1]
        simp only [upS, upF, hr, if_true, hL]
        rw [HJ.out]
        rfl)⟩
      have HZl := Kp.mk (climbL_len d e s k x f HX.out (i + 1))
      obtain ⟨y, hy⟩ : ∃ y, y = climbL d e s k x f i := ⟨_, rfl⟩
      obtain ⟨z, hz⟩ : ∃ z, z = climbL d e s k x f (i + 1) := ⟨_, rfl⟩
      rw [← hy, ← hz] at HNx
      rw [← hy] at G2 HYl
      rw [← hz] at HZl
      have HZe := Kp.mk hz
      rw [← hj]
      clear hy hz HYb hj
      go_wp2_with first
        | (refine wpList_load_row rfl 48 (.tmp 5) rfl A rfl 48 _ (0, 0) _ G1.out Tryd.underlying48 rfl (cells48 d e s) ?_)
        | (refine wpList_load_row rfl 32 (.tmp 6) rfl (A + 1) rfl 32 _ (0, 0) _ G2.out Tryd.underlying32 rfl (cells49 HYl.out) ?_)
      refine (HNx.out wr).mono ?_
      rintro q w1 ⟨rfl, hb⟩
      have F1 := Kp.mk (G1.out.keep hb)
      have F2 := Kp.mk (G2.out.keep hb)
      have F3 := Kp.mk (G3.out.keep hb)
      have F4 : Kp (Below A w w1) := ⟨G4.out.trans (hb.mono (Nat.le_of_lt G1.out.lt))⟩
      clear hb G1 G2 G3 G4
      obtain ⟨W2, hW2⟩ : ∃ W2, W2 = (w1.alloc z49).setRow w1.heap.size (kv .u8 z).toArray := ⟨_, rfl⟩
      have hs2 := F3.out.lt
      have X1 : Kp (Row W2 w1.heap.size 32 .u8 z) := ⟨by rw [hW2]; exact Row.setRow (k := .u8) (l := fill 16 []) (Blk.new w1 z49) _⟩
      have D1 : Kp (Blk W2 A (.cells #[.int .i64 d, .int .u32 e, .int .u32 s] 48)) := ⟨by rw [hW2]; exact (setRow_other _ w1.heap.size A _ (by omega)).trans (Blk.old F1.out _)⟩
      have D2 : Kp (Row W2 (A + 1) 32 .u8 y) := ⟨by rw [hW2]; exact Row.otherRow (Row.alloc F2.out _) (by omega) _⟩
      have D3 : Kp (Row W2 (A + 1 + 1) 32 .u8 (fill 16 [])) := ⟨by rw [hW2]; exact Row.otherRow (Row.alloc F3.out _) (by omega) _⟩
      have D4 : Kp (Below A w W2) := ⟨by rw [hW2]; exact Below.row (F4.out.alloc (by omega) _) (by omega) _⟩
      clear hs2 F1 F2 F3 F4
      go_wp2_with first
        | (refine wpList_store_row rfl 32 (.tmp 13) (.tmp 44) rfl w1.heap.size (kv .u8 z).toArray rfl rfl 32 _ (Blk.new w1 z49) (cells49 HZl.out) (size50 HZl.out) (kv_all _ _) ?_; refine wpl_world (· = W2) hW2.symm ?_; clear hW2; intro W0 e0; rw [e0]; clear e0)
        | (refine wpList_load_row rfl 32 (.tmp 13) rfl w1.heap.size rfl 32 _ (0, 0) _ X1.out Tryd.underlying32 rfl (cells49 HZl.out) ?_)
        | (refine wpList_store_row rfl 32 (.tmp 6) (.tmp 46) rfl (A + 1) (kv .u8 z).toArray rfl rfl 32 _ D2.out (cells49 HZl.out) (by rw [kv_size, kv_size, HYl.out, HZl.out]) (kv_all _ _) ?_)
      exact ⟨⟨i + 1, by omega, by have := HJ.out; first | (go_num; done) | (congr 1; omega), (setRow_other _ (A + 1) A _ (by omega)).trans D1.out, by rw [← HZe.out]; exact D2.out.setRow z, Row.otherRow D3.out (by omega) _, Below.row D4.out (by omega) _⟩, by simp [intOf]; omega⟩
    · have hi' : i = n := by omega
      subst hi'
      obtain ⟨y, hy⟩ : ∃ y, y = climbL d e s k x f i := ⟨_, rfl⟩
      rw [← hy] at G2 HYl HU
      have hjt : ¬ j < t := by omega
      rw [← hj]
      clear hy HYb hj
      have HF := Kp.mk (G3.out.setRow y)
      have HBf := Kp.mk (Below.row G4.out (g := A + 1 + 1) (by omega) (kv .u8 y).toArray)
      go_wp2_with first
        | (refine wpList_load_row rfl 32 (.tmp 6) rfl (A + 1) rfl 32 _ (0, 0) _ G2.out Tryd.underlying32 rfl (cells49 HYl.out) ?_)
        | (refine wpList_store_row rfl 32 (.tmp 10) (.tmp 47) rfl (A + 1 + 1) (kv .u8 y).toArray rfl rfl 32 _ G3.out (cells49 HYl.out) (size50 HYl.out) (kv_all _ _) ?_)
      exact bodyPost_ret (results_rclimb rfl rfl HF.out HYl.out) rfl ⟨by rw [HU.out.1, HU.out.2], by rw [← HA.out]; exact HBf.out⟩
end Go.Proofs.YtahmioiefmheeaaDoor
