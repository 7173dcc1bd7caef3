/-
  As FlowP, where some pure operations (ps) are not waited for by the end: they may come up behind it; they are taken as soon as they are ready.
  The document's Recover.
  How many blocks Recover takes: ots.Cost and the document's.
  The example of layer 10.
-/
import Derived.Test.YtpljjmdkagbjpaaDg07
namespace Go.Proofs.Ytpljjmdkagbjpaa
open Go.RowKit

section
variable {P : Program} {ops : Array Oper} {Q : Exit → Act → World → Prop} {S : World → Prop}

/-- oj waits for number x by an edge of its own. -/
def direct (oj : Oper) (x : Nat) : Bool := oj.after.any fun e => Region.binds .any e && e.on == x
theorem direct_spec {oj : Oper} {x : Nat} : direct oj x = true ↔ ∃ e ∈ oj.after, Region.binds .any e = true ∧ e.on = x := by
  unfold direct
  simp only [Array.any_eq_true', Bool.and_eq_true, beq_iff_eq]
def vsOk (ops : Array Oper) (vs : List Nat) (j : Nat) : Bool := match ops[j]? with
  | some oj => (oj.after.all fun e => !Region.binds .any e || (vs.contains e.on && decide (e.on < j))) &&
      (vs.all fun i => !decide (i < j) || direct oj i || (match ops[i]? with | some oi => oi.apart ops oj | none => false))
  | none => false
def bsOk (ops : Array Oper) (vs ps bs : List Nat) (j k : Nat) : Bool := match ops[j]? with
  | some oj => (oj.after.all fun e => !Region.binds .any e || vs.contains e.on || (bs.take k).contains e.on) && ((bs.take k).all fun x => direct oj x) &&
      (vs.all fun x => direct oj x || (ps.contains x && (depsOf ops vs x).all fun d => direct oj d))
  | none => false
def freeOk (ops : Array Oper) (i : Nat) : Bool := (List.range ops.size).all fun j => j == i || match ops[i]?, ops[j]? with | some oi, some oj => direct oj i || direct oi j || oi.apart ops oj | _, _ => false
def partsOkQ (ops : Array Oper) (vs ps bs : List Nat) : Bool :=
  ((List.range ops.size).all fun i => vs.contains i || bs.contains i) && (vs.all fun i => decide (i < ops.size) && !bs.contains i) && (bs.all fun i => decide (i < ops.size)) && decide (vs.Pairwise (· < ·)) && (ps.all fun i => vs.contains i) &&
  (vs.all fun j => vsOk ops vs j) && (bs.zipIdx.all fun q => bsOk ops vs ps bs q.1 q.2) && (ps.all fun i => freeOk ops i)
structure PartsQ (ops : Array Oper) (vs ps bs : List Nat) : Prop where
  all : ∀ i, i < ops.size → i ∈ vs ∨ i ∈ bs
  v : ∀ i ∈ vs, i < ops.size ∧ i ∉ bs
  b : ∀ i ∈ bs, i < ops.size
  lt : vs.Pairwise (· < ·)
  p : ∀ i ∈ ps, i ∈ vs
  vd : ∀ j ∈ vs, ∀ oj, ops[j]? = some oj → (∀ e ∈ oj.after, Region.binds .any e = true → e.on ∈ vs ∧ e.on < j) ∧ (∀ i ∈ vs, i < j → ∀ oi, ops[i]? = some oi → (∀ e ∈ oj.after, Region.binds .any e = true → e.on ≠ i) → oi.apart ops oj = true)
  bd : ∀ (k j : Nat), bs[k]? = some j → ∀ oj, ops[j]? = some oj → (∀ e ∈ oj.after, Region.binds .any e = true → e.on ∈ vs ∨ e.on ∈ bs.take k) ∧ (∀ x ∈ bs.take k, direct oj x = true) ∧ (∀ x ∈ vs, direct oj x = true ∨ (x ∈ ps ∧ ∀ d ∈ depsOf ops vs x, direct oj d = true))
  free : ∀ i ∈ ps, ∀ oi, ops[i]? = some oi → ∀ j oj, ops[j]? = some oj → j ≠ i → (∀ e ∈ oi.after, Region.binds .any e = true → e.on ≠ j) → (∀ e ∈ oj.after, Region.binds .any e = true → e.on ≠ i) → oi.apart ops oj = true
theorem partsQ_of {vs ps bs : List Nat} (h : partsOkQ ops vs ps bs = true) : PartsQ ops vs ps bs := by
  unfold partsOkQ at h
  simp only [Bool.and_eq_true, List.all_eq_true, decide_eq_true_eq, List.mem_range, Bool.or_eq_true, Bool.not_eq_true', List.contains_eq_mem, decide_eq_false_iff_not] at h
  obtain ⟨⟨⟨⟨⟨⟨⟨h1, h2⟩, h3⟩, h4⟩, h5⟩, h6⟩, h7⟩, h8⟩ := h
  refine ⟨h1, h2, h3, h4, h5, fun j hj oj hoj => ?_, fun k j hk oj hoj => ?_, fun i hi oi hoi j oj hoj hne hnj hno => ?_⟩
  · have h := h6 j hj
    unfold vsOk at h
    rw [hoj] at h
    simp only [Bool.and_eq_true, Array.all_eq_true_iff_forall_mem, List.all_eq_true, Bool.or_eq_true, Bool.not_eq_true', decide_eq_true_eq, decide_eq_false_iff_not, List.contains_eq_mem] at h
    refine ⟨fun e he hb => ?_, fun i hi hij oi hoi hno => ?_⟩
    · rcases h.1 e he with g | g
      · rw [hb] at g; cases g
      · exact g
    · rcases h.2 i hi with (g | g) | g
      · exact absurd hij g
      · obtain ⟨e, he, hb, heq⟩ := direct_spec.1 g
        exact absurd heq (hno e he hb)
      · rw [hoi] at g; exact g
  · have hm : (j, k) ∈ bs.zipIdx := by rw [List.mem_zipIdx_iff_getElem?]; exact hk
    have h := h7 _ hm
    unfold bsOk at h
    simp only [hoj, Bool.and_eq_true, Array.all_eq_true_iff_forall_mem, List.all_eq_true, Bool.or_eq_true, Bool.not_eq_true', decide_eq_true_eq, List.contains_eq_mem] at h
    refine ⟨fun e he hb => ?_, h.1.2, h.2⟩
    rcases h.1.1 e he with (g | g) | g
    · rw [hb] at g; cases g
    · exact .inl g
    · exact .inr g
  · have h := h8 i hi
    unfold freeOk at h
    simp only [List.all_eq_true, List.mem_range, Bool.or_eq_true, beq_iff_eq] at h
    have g := h j (Array.getElem?_eq_some_iff.1 hoj).1
    rw [hoi, hoj] at g
    rcases g with g | g
    · exact absurd g hne
    · simp only [Bool.or_eq_true] at g
      rcases g with (g | g) | g
      · obtain ⟨e, he, hb, heq⟩ := direct_spec.1 g
        exact absurd heq (hno e he hb)
      · obtain ⟨e, he, hb, heq⟩ := direct_spec.1 g
        exact absurd heq (hnj e he hb)
      · exact g

/-- The end: one behind the other. -/
theorem wpAny_endQ {vs ps bs : List Nat} (hok : PartsQ ops vs ps bs) : ∀ (rest : List Nat) (k : Nat) (fuel : Nat) (listed : Array Bool) (a : Act) (w : World),
    bs.drop k = rest → listed.size = ops.size → rest.length ≤ fuel → bs.Nodup → (∀ i, i < ops.size → (listed.getD i false = true ↔ i ∉ rest)) →
    wpOps P ops Q rest a w → wpAny P .any ops Q fuel listed a w := by
  intro rest
  induction rest with
  | nil =>
    intro k fuel listed a w hd hsz hf hbnd hl h
    have hr : Region.ready .any ops listed = [] := by
      rw [List.eq_nil_iff_forall_not_mem]
      intro i hi
      obtain ⟨h0, o, ho, _⟩ := mem_ready.1 hi
      have hin := (Array.getElem?_eq_some_iff.1 ho).1
      have := (hl i hin).2 (by simp)
      rw [getD_flip (by omega)] at h0
      rw [h0] at this
      cases this
    cases fuel with
    | zero => exact ⟨hr, h⟩
    | succ fuel => exact ⟨fun _ => h, by rw [hr]; simp⟩
  | cons j rest ih =>
    intro k fuel listed a w hd hsz hf hbnd hl h
    cases fuel with
    | zero => simp at hf
    | succ fuel =>
      have hk : bs[k]? = some j := by
        have := congrArg (fun l => l[0]?) hd
        simpa using this
      have hjb : j ∈ bs := List.mem_of_getElem? hk
      have hjn := hok.b j hjb
      have hdrop : bs.drop (k + 1) = rest := by
        rw [← List.drop_drop, hd]; rfl
      have hbs' : bs = bs.take k ++ j :: rest := by rw [← hd, List.take_append_drop]
      have hnd' : (bs.take k ++ j :: rest).Nodup := hbs' ▸ hbnd
      have hjr : j ∉ rest := fun hm => (List.nodup_cons.1 (List.nodup_append.1 hnd').2.1).1 hm
      have hjf : listed.getD j false = false := by
        have hne : ¬ listed.getD j false = true := fun hx => ((hl j hjn).1 hx) (by simp)
        simpa using hne
      have hunl : listed.getD j true = false := by rw [getD_flip (by omega)]; exact hjf
      obtain ⟨oj, hoj⟩ : ∃ o, ops[j]? = some o := ⟨_, Array.getElem?_eq_getElem hjn⟩
      have hone : ∀ i, i ∈ Region.ready .any ops listed → i = j := fun i hi => by
        obtain ⟨h0, o, ho, hdeps⟩ := mem_ready.1 hi
        have hin := (Array.getElem?_eq_some_iff.1 ho).1
        have hir : i ∈ j :: rest := by
          false_or_by_contra
          rename_i hno
          have := (hl i hin).2 hno
          rw [getD_flip (by omega)] at h0
          rw [h0] at this
          cases this
        cases hir with
        | head => rfl
        | tail _ hir =>
          exfalso
          obtain ⟨m, hm⟩ := List.getElem?_of_mem hir
          have hbi : bs[k + 1 + m]? = some i := by
            have := congrArg (fun l => l[m]?) hdrop
            simp only [List.getElem?_drop] at this
            rw [this, hm]
          have hjt : j ∈ bs.take (k + 1 + m) := List.mem_of_getElem? (i := k) (by rw [List.getElem?_take, if_pos (by omega)]; exact hk)
          obtain ⟨e, he, hb, heq⟩ := direct_spec.1 ((hok.bd _ i hbi o ho).2.1 j hjt)
          have := hdeps e he hb
          rw [heq, hjf] at this
          cases this
      have hready : j ∈ Region.ready .any ops listed := by
        rw [mem_ready]
        refine ⟨hunl, oj, hoj, fun e he hb => ?_⟩
        rcases (hok.bd k j hk oj hoj).1 e he hb with h1 | h1
        · exact (hl _ (hok.v _ h1).1).2 fun hm => (hok.v _ h1).2 (hbs' ▸ List.mem_append_right _ hm)
        · exact (hl _ (hok.b _ (List.mem_of_mem_take h1))).2 fun hm => (List.nodup_append.1 hnd').2.2 _ h1 _ hm rfl
      refine ⟨fun hr => (by rw [hr] at hready; cases hready), fun i hi => ?_⟩
      obtain rfl := hone i hi
      rw [wpOps_cons] at h
      refine wpOp_mono (fun a' w' h' => ih (k + 1) fuel _ a' w' hdrop (by simpa using hsz) (by simp at hf; omega) hbnd (fun x hx => ?_) h') h
      rw [listed_set (by omega)]
      by_cases hxi : x = i
      · subst hxi
        simp [hjr]
      · rw [if_neg hxi, hl x hx]
        simp [hxi]
theorem wpAny_predQ (hmono : Stays S) (hs : ∀ (j : Nat) (o : Oper) cs b, ops[j]? = some o → o.op ≠ .select cs b) {vs ps bs : List Nat} (hok : PartsQ ops vs ps bs) (hdst : dstsOk ops vs = true) (hbnd : bs.Nodup)
    (hQ : ∀ c a w d v, Q (.panic c) (Act.put a d v) w → Q (.panic c) a w)
    {Φ : Nat → World → Value → Prop} (hΦ : ∀ i w w' v, Φ i w v → Below w.heap.size w w' → Φ i w' v) {a0 : Act}
    (need : ∀ i ∈ vs, ∀ (γ : Nat → Value) (w : World), S w → (∀ d ∈ depsOf ops vs i, Φ d w (γ d)) → ∃ o, ops[i]? = some o ∧ PredOp P ops o (Φ i) (putD ops γ (depsOf ops vs i) a0) w)
    (pure : ∀ i ∈ ps, ∀ (γ : Nat → Value) (w : World), S w → (∀ d ∈ depsOf ops vs i, Φ d w (γ d)) → ∃ o v, ops[i]? = some o ∧ Yields P ops o v (putD ops γ (depsOf ops vs i) a0) ∧ Φ i w v)
    (hD : ∀ (γ : Nat → Value) (w : World), S w → (∀ i ∈ vs, Φ i w (γ i)) → wpOps P ops Q bs (putD ops γ vs a0) w) :
    ∀ (fuel : Nat) (listed : Array Bool) (γ : Nat → Value) (L : List Nat) (w : World), listed.size = ops.size → L.Nodup → (∀ i ∈ L, i ∈ vs) → (∀ i ∈ vs, i ∈ L ↔ listed.getD i false = true) → (∀ i ∈ bs, listed.getD i false = false) →
      Closed ops listed → (vs.filter fun i => !L.contains i).length + bs.length ≤ fuel → S w → (∀ i ∈ L, Φ i w (γ i)) → wpAny P .any ops Q fuel listed (putD ops γ L a0) w := by
  have hnd : vs.Nodup := hok.lt.imp fun h => by omega
  have hdd := dstsOk_spec hdst
  have hend : ∀ (fuel : Nat) (listed : Array Bool) (γ : Nat → Value) (L : List Nat) (w : World), listed.size = ops.size → L.Nodup → (∀ i ∈ L, i ∈ vs) → (∀ i ∈ vs, i ∈ L ↔ listed.getD i false = true) → (∀ i ∈ bs, listed.getD i false = false) →
      bs.length ≤ fuel → S w → (∀ i ∈ L, Φ i w (γ i)) → (∀ i ∈ vs, i ∈ L) → wpAny P .any ops Q fuel listed (putD ops γ L a0) w := by
    intro fuel listed γ L w hsz hLn hLv hl hbl hf hS hg hfull
    have hp : L.Perm vs := (List.perm_ext_iff_of_nodup hLn hnd).2 fun x => ⟨hLv x, hfull x⟩
    rw [putD_perm γ hp (fun x hx y hy => hdd x (hLv x hx) y (hLv y hy)) a0]
    refine wpAny_endQ hok bs 0 fuel listed _ w rfl hsz hf hbnd (fun i hi => ?_) (hD γ w hS fun i hi => hg i (hfull i hi))
    rcases hok.all i hi with h | h
    · exact ⟨fun _ hib => (hok.v i h).2 hib, fun _ => (hl i h).1 (hfull i h)⟩
    · exact ⟨fun ht => (by rw [hbl i h] at ht; cases ht), fun hn => absurd h hn⟩
  intro fuel
  induction fuel with
  | zero =>
    intro listed γ L w hsz hLn hLv hl hbl _ hf hS hg
    have h0 : (vs.filter fun i => !L.contains i) = [] := List.length_eq_zero_iff.1 (by omega)
    refine hend 0 listed γ L w hsz hLn hLv hl hbl (by omega) hS hg fun i hi => ?_
    have := List.filter_eq_nil_iff.1 h0 i hi
    simpa using this
  | succ fuel ih =>
    intro listed γ L w hsz hLn hLv hl hbl hcl hf hS hg
    by_cases hfull : ∀ i ∈ vs, i ∈ L
    · exact hend _ listed γ L w hsz hLn hLv hl hbl (by omega) hS hg hfull
    -- what has come up besides does not matter
    have htrans : ∀ i ∈ vs, ∀ oi, ops[i]? = some oi → i ∈ Region.ready .any ops listed → i ∉ L ∧ (∀ d ∈ depsOf ops vs i, d ∈ L) ∧
        execOp (putD ops γ L a0).eval oi = execOp (putD ops γ (depsOf ops vs i) a0).eval oi ∧ Region.wanted oi (yielded ops (putD ops γ L a0).tmps) = Region.wanted oi (yielded ops (putD ops γ (depsOf ops vs i) a0).tmps) := by
      intro i hiv oi hoi hi
      obtain ⟨h0, o', ho', hdeps⟩ := mem_ready.1 hi
      rw [hoi] at ho'
      cases ho'
      have hin : i < ops.size := (hok.v i hiv).1
      have h0' : listed.getD i false = false := by rw [← getD_flip (by rw [hsz]; exact hin)]; exact h0
      have hiL : i ∉ L := fun h => by rw [(hl i hiv).1 h] at h0'; cases h0'
      have hdL : ∀ d ∈ depsOf ops vs i, d ∈ L := fun d hd => by
        obtain ⟨hdv, e, he, hb, heq⟩ := (mem_depsOf hoi).1 hd
        have := hdeps e he hb
        rw [heq] at this
        exact (hl d hdv).2 this
      have hp : L.Perm (depsOf ops vs i ++ L.filter fun x => !(depsOf ops vs i).contains x) := by
        have h1 := (List.filter_append_perm (fun x => (depsOf ops vs i).contains x) L).symm
        refine h1.trans (List.Perm.append_right _ ?_)
        refine (List.perm_ext_iff_of_nodup (hLn.filter _) (hnd.filter _)).2 fun x => ?_
        rw [List.mem_filter]
        simp only [List.contains_eq_mem, decide_eq_true_eq]
        exact ⟨fun h => h.2, fun h => ⟨hdL x h, h⟩⟩
      have hput : putD ops γ L a0 = putD ops γ (L.filter fun x => !(depsOf ops vs i).contains x) (putD ops γ (depsOf ops vs i) a0) := by
        rw [putD_perm γ hp (fun x hx y hy => hdd x (hLv x hx) y (hLv y hy)) a0, putD_append]
      have hsame := same_putD (ops := ops) γ oi (fun cs b => hs i oi cs b hoi) (L.filter fun x => !(depsOf ops vs i).contains x) (putD ops γ (depsOf ops vs i) a0) fun x hx t ht => by
        obtain ⟨hxL, hxd⟩ := List.mem_filter.1 hx
        have hxv := hLv x hxL
        have hxo := Array.getElem?_eq_getElem (hok.v x hxv).1
        have hxd' : x ∉ depsOf ops vs i := by simpa using hxd
        have hdx : (ops[x]'(hok.v x hxv).1).dst = some t := by
          unfold dstOf at ht
          rw [hxo] at ht
          exact ht
        have hno : ∀ e ∈ oi.after, Region.binds .any e = true → e.on ≠ x := fun e he hb heq => hxd' ((mem_depsOf hoi).2 ⟨hxv, e, he, hb, heq⟩)
        have hne : x ≠ i := fun e => hiL (e ▸ hxL)
        rcases Nat.lt_or_gt_of_ne hne with hxi | hxi
        · exact (Oper.apart_spec ((hok.vd i hiv oi hoi).2 x hxv hxi _ hxo hno)).1 t hdx
        · have hap := (hok.vd x hxv _ hxo).2 i hiv hxi oi hoi fun e he hb heq => by
            have := hcl x _ e ((hl x hxv).1 hxL) hxo he hb
            rw [heq, h0'] at this
            cases this
          exact (Oper.apart_spec hap).2.2 t hdx
      rw [hput]
      exact ⟨hiL, hdL, hsame.1, hsame.2⟩
    -- one more has come up
    have hstep : ∀ i ∈ vs, ∀ oi, ops[i]? = some oi → i ∈ Region.ready .any ops listed → i ∉ L → ∀ v w', Φ i w' v → Below w.heap.size w w' → wpAny P .any ops Q fuel (listed.setIfInBounds i true) ((putD ops γ L a0).put oi.dst v) w' := by
      intro i hiv oi hoi hi hiL v w' hv hb
      have hin : i < ops.size := (hok.v i hiv).1
      have hγ : (putD ops γ L a0).put oi.dst v = putD ops (fun k => if k = i then v else γ k) (L ++ [i]) a0 := by
        rw [putD_append, putD_congr (γ := fun k => if k = i then v else γ k) (γ' := γ) L a0 fun k hk => (if_neg (fun e : k = i => hiL (e ▸ hk)) : (if k = i then v else γ k) = γ k)]
        show (putD ops γ L a0).put oi.dst v = (putD ops γ L a0).put (dstOf ops i) (if i = i then v else γ i)
        rw [if_pos rfl]
        unfold dstOf
        rw [hoi]
        rfl
      rw [hγ]
      refine ih _ _ _ _ (by simpa using hsz) ?_ ?_ ?_ ?_ (closed_set hcl hi) ?_ (hmono _ _ hS hb) ?_
      · rw [List.nodup_append]
        exact ⟨hLn, by simp, fun x hx y hy e => by simp at hy; exact hiL (hy ▸ e ▸ hx)⟩
      · intro x hx
        rcases List.mem_append.1 hx with h | h
        · exact hLv x h
        · simp at h; exact h ▸ hiv
      · intro x hx
        rw [listed_set (by rw [hsz]; exact hin), List.mem_append]
        by_cases hxi : x = i
        · subst hxi; simp
        · rw [if_neg hxi, ← hl x hx]; simp [hxi]
      · intro x hx
        have hxi : x ≠ i := fun e => (hok.v i hiv).2 (e ▸ hx)
        rw [listed_set (by rw [hsz]; exact hin), if_neg hxi]
        exact hbl x hx
      · have hlen : (vs.filter fun x => !(L ++ [i]).contains x).length < (vs.filter fun x => !L.contains x).length := by
          have hsub : (vs.filter fun x => !(L ++ [i]).contains x) = (vs.filter fun x => !L.contains x).filter fun x => x != i := by
            rw [List.filter_filter]
            congr 1
            funext x
            simp only [List.contains_eq_mem, List.mem_append, List.mem_singleton]
            by_cases h1 : x ∈ L <;> by_cases h2 : x = i <;> simp [h1, h2]
          rw [hsub]
          refine List.length_filter_lt_length_iff_exists.2 ⟨i, List.mem_filter.2 ⟨hiv, by simpa using hiL⟩, by simp⟩
        omega
      · intro x hx
        rcases List.mem_append.1 hx with h | h
        · have hxi : x ≠ i := fun e => hiL (e ▸ h)
          show Φ x w' (if x = i then v else γ x)
          rw [if_neg hxi]
          exact hΦ x w w' _ (hg x h) hb
        · simp at h
          subst h
          show Φ x w' (if x = x then v else γ x)
          rw [if_pos rfl]
          exact hv
    by_cases hpure : ∃ i ∈ ps, i ∈ Region.ready .any ops listed
    · obtain ⟨i, hip, hi⟩ := hpure
      have hiv := hok.p i hip
      have hoi := Array.getElem?_eq_getElem (hok.v i hiv).1
      obtain ⟨hiL, hdL, e1, e2⟩ := htrans i hiv _ hoi hi
      obtain ⟨o, v, ho, hy, hv⟩ := pure i hip γ w hS fun d hd => hg d (hdL d hd)
      rw [hoi] at ho
      cases ho
      exact wpAny_first hoi hs (fun c a w h => hQ c a w _ v h) fuel listed _ w (fun j oj hj hne hlj hno => hok.free i hip _ hoi j oj hj hne (fun e he hb heq => by
        obtain ⟨_, o', ho', hdeps⟩ := mem_ready.1 hi
        rw [hoi] at ho'
        cases ho'
        have h1 := hdeps e he hb
        rw [heq, ← getD_flip (by rw [hsz]; exact (Array.getElem?_eq_some_iff.1 hj).1), hlj] at h1
        cases h1) hno) hi (hy.of_same e1 e2) (hstep i hiv _ hoi hi hiL v w hv (Below.refl _ _))
    have hno : ∀ i ∈ ps, i ∉ Region.ready .any ops listed := fun i hip hi => hpure ⟨i, hip, hi⟩
    refine ⟨fun hr => ?_, fun i hi => ?_⟩
    · exfalso
      apply hfull
      have : ∀ n i, i ≤ n → i ∈ vs → i ∈ L := by
        intro n
        induction n with
        | zero =>
          intro i hin hi
          false_or_by_contra
          rename_i hiL
          have hio := Array.getElem?_eq_getElem (hok.v i hi).1
          have hm : i ∈ Region.ready .any ops listed := mem_ready.2 ⟨by rw [getD_flip (by rw [hsz]; exact (hok.v i hi).1)]; have := fun h => hiL ((hl i hi).2 h); simpa using this, _, hio, fun e he hb => by
            have := ((hok.vd i hi _ hio).1 e he hb).2
            omega⟩
          rw [hr] at hm
          cases hm
        | succ n ihn =>
          intro i hin hi
          false_or_by_contra
          rename_i hiL
          have hio := Array.getElem?_eq_getElem (hok.v i hi).1
          have hm : i ∈ Region.ready .any ops listed := mem_ready.2 ⟨by rw [getD_flip (by rw [hsz]; exact (hok.v i hi).1)]; have := fun h => hiL ((hl i hi).2 h); simpa using this, _, hio, fun e he hb => by
            obtain ⟨h1, h2⟩ := (hok.vd i hi _ hio).1 e he hb
            exact (hl e.on h1).1 (ihn e.on (by omega) h1)⟩
          rw [hr] at hm
          cases hm
      exact fun i hi => this i i (Nat.le_refl _) hi
    · obtain ⟨h0, oi, hoi, hdeps⟩ := mem_ready.1 hi
      have hin : i < ops.size := (Array.getElem?_eq_some_iff.1 hoi).1
      rcases hok.all i hin with hiv | hib
      · obtain ⟨hiL, hdL, e1, e2⟩ := htrans i hiv oi hoi hi
        obtain ⟨o, ho, hop⟩ := need i hiv γ w hS fun d hd => hg d (hdL d hd)
        rw [hoi] at ho
        cases ho
        exact (hop.of_same e1 e2).wpOp hoi fun v w' hv hb => hstep i hiv oi hoi hi hiL v w' hv hb
      · exfalso
        apply hfull
        intro x hx
        obtain ⟨k, hk⟩ := List.getElem?_of_mem hib
        have hdl : ∀ y, direct oi y = true → listed.getD y false = true := fun y hy => by
          obtain ⟨e, he, hb, heq⟩ := direct_spec.1 hy
          have := hdeps e he hb
          rw [heq] at this
          exact this
        rcases (hok.bd k i hk oi hoi).2.2 x hx with hd | ⟨hxp, hd⟩
        · exact (hl x hx).2 (hdl x hd)
        · false_or_by_contra
          rename_i hxL
          have hxo := Array.getElem?_eq_getElem (hok.v x hx).1
          refine hno x hxp (mem_ready.2 ⟨by rw [getD_flip (by rw [hsz]; exact (hok.v x hx).1)]; have := fun h => hxL ((hl x hx).2 h); simpa using this, _, hxo, fun e he hb => ?_⟩)
          exact hdl _ (hd _ ((mem_depsOf hxo).2 ⟨((hok.vd x hx _ hxo).1 e he hb).1, e, he, hb, rfl⟩))

/-- What is to be shown of the pure operations. -/
def PureE (P : Program) (ops : Array Oper) (S : World → Prop) (Φ : Nat → World → Value → Prop) (a0 : Act) : List Nat → List (List (Nat × Option Tmp)) → Prop
  | i :: r, d :: ds => (∀ (γ : Nat → Value) (w : World), S w → AllE Φ γ w d → ∃ o v, ops[i]? = some o ∧ Yields P ops o v (putE γ d a0) ∧ Φ i w v) ∧ PureE P ops S Φ a0 r ds
  | _, _ => True
theorem pureE_at {vs : List Nat} {Φ : Nat → World → Value → Prop} {a0 : Act} : ∀ l : List Nat, PureE P ops S Φ a0 l (l.map fun i => (depsOf ops vs i).map fun d => (d, dstOf ops d)) → ∀ i ∈ l, ∀ (γ : Nat → Value) (w : World), S w → (∀ d ∈ depsOf ops vs i, Φ d w (γ d)) → ∃ o v, ops[i]? = some o ∧ Yields P ops o v (putD ops γ (depsOf ops vs i) a0) ∧ Φ i w v
  | [], _, _, hi => by cases hi
  | j :: r, h, i, hi => by
    rcases List.mem_cons.1 hi with rfl | hi
    · intro γ w hS hd
      obtain ⟨o, v, ho, hp, hv⟩ := h.1 γ w hS (allE_eq _ hd)
      rw [putE_eq] at hp
      exact ⟨o, v, ho, hp, hv⟩
    · exact pureE_at r h.2 i hi

/-- THE LAW. -/
theorem wp_region_predQ {id : Nat} {a : Act} {w : World} (S : World → Prop) (vs ps bs : List Nat) (Φ : Nat → World → Value → Prop) (dl pl : List (List (Nat × Option Tmp))) (al : List (Nat × Option Tmp)) (hm : P.follows .mixedOrders = true) (hs : Region.noSelect ops = true) (hok : partsOkQ ops vs ps bs = true) (hdst : dstsOk ops vs = true)
    (hdl : (vs.map fun i => (depsOf ops vs i).map fun d => (d, dstOf ops d)) = dl) (hpl : (ps.map fun i => (depsOf ops vs i).map fun d => (d, dstOf ops d)) = pl) (hal : (vs.map fun d => (d, dstOf ops d)) = al) (hbnd : bs.Nodup) (hlen : vs.length + bs.length ≤ ops.size) (hmono : Stays S)
    (hQ : ∀ c a w d v, Q (.panic c) (Act.put a d v) w → Q (.panic c) a w) (hΦ : ∀ i w w' v, Φ i w v → Below w.heap.size w w' → Φ i w' v) (hS : S w.drew)
    (need : NeedE P ops S Φ a vs dl) (pure : PureE P ops S Φ a ps pl)
    (hD : ∀ (γ : Nat → Value) (w : World), S w → AllE Φ γ w al → wpOps P ops Q bs (putE γ al a) w) : (Code.region id ops true).wp P Q a w := by
  have hl0 : ∀ i, (Array.replicate ops.size false).getD i false = false := fun i => by
    by_cases hi : i < ops.size <;> simp [hi]
  subst hdl hpl hal
  refine wp_region_any hm ?_
  exact wpAny_predQ (Q := Q) hmono (Region.noSelect_spec hs) (partsQ_of hok) hdst hbnd hQ hΦ (fun i hi γ wx hSx h => needE_at vs need i hi γ wx hSx h) (fun i hi γ wx hSx h => pureE_at ps pure i hi γ wx hSx h) (fun γ wx hSx h => by rw [← putE_eq]; exact hD γ wx hSx (allE_eq _ h))
    ops.size (Array.replicate ops.size false) (fun _ => undef) [] w.drew (by simp) (by simp) (fun i hi => by cases hi) (fun i _ => by simp [hl0]) (fun i _ => hl0 i)
    (fun i o e hi => by rw [hl0] at hi; cases hi) (Nat.le_trans (Nat.add_le_add_right (List.length_filter_le _ _) _) hlen) hS (fun i hi => by cases hi)
end
end Go.Proofs.Ytpljjmdkagbjpaa

namespace Go.Proofs.Ytpljjmdkagbjpaa
open Go.RowKit

set_option maxRecDepth 100000 in
set_option maxHeartbeats 8000000 in
theorem rrecover_any (d x : Int) (m S : List Int) (w : World) (hx : 0 ≤ x ∧ x < 4294967296) (hm : m.length = 16) (hmb : Bytes m) (hS : S.length = 1088) (hSb : Bytes S) :
    Calls Try.prog 5 #[nameV d x, dgV m, .agg (kv .u8 S).toArray] w fun q w' => ∃ v, q = .returned (.tuple #[dgV (shortL (wholeT d x (recL d x m S 68))), v]) ∧ TextsO w' w.heap.size v (recTL d x m S 68 ++ [wholeT d x (recL d x m S 68)]) ∧ Below w.heap.size w w' := by
  have HX := Kp.mk hx
  have HM := Kp.mk (And.intro hm hmb)
  have HOK := Kp.mk (recL_ok d x m hS hSb)
  have hC := fun (w : World) => box_row (t := 29) (cs := kv .u8 S) (cellsT43 hS) w
  have hC2 := fun (w : World) => box_row (t := 22) (cs := kv .u8 m) (cellsT25 hm) w
  have HCm := Kp.mk (cellsT25 hm)
  clear hx hm hmb hS hSb
  go_enter Try.func5, Try.ntmps5
  go_wp2_with (first
    | (refine wpList_box_eq rfl 29 (.tmp 2) rfl _ rfl _ _ (hC _) ?_)
    | (refine wpList_box_eq rfl 22 (.tmp 1) rfl _ rfl _ _ (hC2 _) ?_)
    | (refine wpList_load_row rfl 22 (.tmp 4) rfl (w.heap.size + 1) rfl 22 (kv .u8 m).toArray (0, 0) _ (Blk.old (Blk.old (Blk.newAt _ (by simp)) _) _) Try.underlying22 rfl HCm.out ?_))
  obtain ⟨A, hA⟩ : ∃ A, A = w.heap.size := ⟨_, rfl⟩
  have HA := Kp.mk hA
  rw [← hA]
  refine calls_world (fun W => Blk W A (.cells #[.int .i64 d, .int .u32 x] 25) ∧ Row W (A + 2) 29 .u8 S ∧ Row W (A + 3) 22 .u8 (fill 16 []) ∧ Below A w W) ⟨?_, ?_, ?_, ?_⟩ ?_
  · exact Blk.old (Blk.old (Blk.old (Blk.newAt _ hA) _) _) _
  · exact Blk.old (Blk.newAt _ (by simp [hA])) _
  · exact Blk.newAt _ (by simp [hA])
  · rw [hA]; exact more (more (more (more (Below.refl _ _) _) _) _) _
  rw [show A + 1 + 1 + 1 = A + 3 from rfl, show A + 1 + 1 = A + 2 from rfl]
  clear hA hC hC2
  rintro W ⟨h1, h2, h3, h4⟩
  refine (rdigits_any m W HM.out.1 HM.out.2).mono ?_
  rintro r w1 ⟨rfl, hb⟩
  obtain ⟨B, hB⟩ : ∃ B, B = w1.heap.size := ⟨_, rfl⟩
  have HBe := Kp.mk hB
  have G1 := Kp.mk (Blk.keep h1 hb)
  have G2 := Kp.mk (h2.keep hb)
  have G3 := Kp.mk (h3.keep hb)
  have G4 : Kp (Below A w w1) := ⟨h4.trans (hb.mono (Nat.le_of_lt (Blk.lt h1)))⟩
  have hAB : A + 3 < B := by rw [hB]; exact G3.out.lt
  have HDG : Kp (∀ c, c < 68 → (digS m).getD c 0 = digA m c) := ⟨fun c hc => digS_at m hc⟩
  have HDl : Kp ((digS m).length = 68) := ⟨digS_len m⟩
  generalize digS m = dl at *
  have HC51 : Kp ((Try.prog.info? 33).map (·.size) = some (kv .u8 dl).toArray.size) := ⟨by rw [show (kv .u8 dl).toArray.size = 68 by simp [HDl.out]]; exact size33⟩
  have HZ51 : Kp ((kv .u8 (List.replicate 68 0)).toArray.size = (kv .u8 dl).toArray.size) := ⟨by rw [kv_size, kv_size, HDl.out]; simp⟩
  clear h1 h2 h3 h4 hb
  go_wp2_with (first
    | (refine wpList_alloc_row rfl 33 rfl _ _ info33 ?_; rw [← hB]; clear hB; refine wpl_world (fun w2 => Row w2 B 33 .u8 (List.replicate 68 0) ∧ Blk w2 A (.cells #[.int .i64 d, .int .u32 x] 25) ∧ Row w2 (A + 2) 29 .u8 S ∧ Row w2 (A + 3) 22 .u8 (fill 16 []) ∧ Below A w w2) ⟨Blk.newAt _ HBe.out, G1.out.old _, G2.out.alloc _, G3.out.alloc _, G4.out.alloc (by have := HBe.out; omega) _⟩ ?_; rintro W2 ⟨h0, h1, h2, h3, h4⟩; have K0 := Kp.mk h0; have K1 := Kp.mk h1; have K2 := Kp.mk h2; have K3 := Kp.mk h3; have K4 := Kp.mk h4; clear h0 h1 h2 h3 h4)
    | (refine wpList_store_row rfl 33 (.tmp 8) (.tmp 15) rfl B (kv .u8 dl).toArray rfl rfl 33 _ K0.out HC51.out HZ51.out (kv_all _ _) ?_; refine wpl_world (fun w2 => Row w2 B 33 .u8 dl ∧ Blk w2 A (.cells #[.int .i64 d, .int .u32 x] 25) ∧ Row w2 (A + 2) 29 .u8 S ∧ Row w2 (A + 3) 22 .u8 (fill 16 []) ∧ Below A w w2) ⟨K0.out.setRow dl, (setRow_other W2 B A _ (by omega)).trans K1.out, Row.otherRow K2.out (by omega) _, Row.otherRow K3.out (by omega) _, Below.row K4.out (by omega) _⟩ ?_; rintro W3 ⟨h0, h1, h2, h3, h4⟩; have L0 := Kp.mk h0; have L1 := Kp.mk h1; have L2 := Kp.mk h2; have L3 := Kp.mk h3; have L4 := Kp.mk h4; clear h0 h1 h2 h3 h4 K0 K1 K2 K3 K4))
  clear G1 G2 G3 G4
  go_loopw [9, 10] (fun v9 c10 wr => ∃ k : Nat, k ≤ 68 ∧ c10 = .int .i64 k ∧ Kp (TextsO wr (B + 1) v9 (recTL d x m S k)) ∧ Kp (Blk wr A (.cells #[.int .i64 d, .int .u32 x] 25)) ∧ Kp (Row wr (A + 2) 29 .u8 (recL d x m S k)) ∧ Kp (Row wr (A + 3) 22 .u8 (fill 16 [])) ∧ Kp (Row wr B 33 .u8 dl) ∧ Kp (Below A w wr)) (fun _ c _ => 68 - (intOf c).toNat)
  case atStart => exact ⟨0, by omega, rfl, ⟨TextsO.nil _ _⟩, L1, L2, L3, L0, L4⟩
  case round =>
    obtain ⟨k, hk, rfl, F0, F1, F2, F3, F5, F4⟩ := hrel
    clear L0 L1 L2 L3 L4
    have HYk := Kp.mk (HOK.out k hk)
    by_cases hlt : k < 68
    · have hdk0 := HDG.out k hlt
      have HYn := Kp.mk (show recL d x m S (k + 1) = splice (recL d x m S k) (k * 16) (runS d x k (dgt m k) (linkAt (recL d x m S k) k) (3 - dgt m k)) from rfl)
      have HTn := Kp.mk (show recTL d x m S (k + 1) = recTL d x m S k ++ runT d x k (dgt m k) (linkAt (recL d x m S k) k) (3 - dgt m k) from rfl)
      have HTH := Kp.mk (recTL_heads d x m S k)
      have HTL : Kp ((recTL d x m S k).length ≤ 204) := ⟨by have := recTL_len d x m S k; omega⟩
      generalize recTL d x m S k = ts at *
      generalize recL d x m S k = y at *
      have HYl : Kp (y.length = 1088) := ⟨HYk.out.1⟩
      obtain ⟨z, hz⟩ : ∃ z, z = linkAt y k := ⟨_, rfl⟩
      rw [← hz] at HYn HTn
      have HZ : Kp (z = (y.drop (k * 16)).take 16) := ⟨hz⟩
      have HZl : Kp (z.length = 16) := ⟨by rw [hz]; exact linkAt_len HYk.out.1 hlt⟩
      have HZb : Kp (Bytes z) := ⟨by rw [hz]; exact linkAt_bytes HYk.out.2 k⟩
      obtain ⟨hg1, hg2⟩ := dgt_is m k
      rw [← hg1] at hdk0
      generalize dgt m k = g at *
      have hdk := Kp.mk hdk0
      obtain ⟨u, hu⟩ : ∃ u, u = runS d x k g z (3 - g) := ⟨_, rfl⟩
      rw [← hu] at HYn
      have HU := Kp.mk hu
      have HUl : Kp (u.length = 16) := ⟨by rw [hu]; exact runS_len d x k g HZl.out _⟩
      obtain ⟨tz, htz⟩ : ∃ tz, tz = runT d x k g z (3 - g) := ⟨_, rfl⟩
      rw [← htz] at HTn
      have HTZ := Kp.mk htz
      have HZH : Kp (Heads tz) := ⟨by rw [htz]; exact runT_heads _ _ _ _ _ _⟩
      have HTZl : Kp (tz.length ≤ 3) := ⟨by rw [htz, runT_len]; omega⟩
      have HC := Kp.mk (cellsT25 HUl.out)
      have HZ16 := Kp.mk (size50 HUl.out)
      clear hz hu hg1 htz hdk0
      have hlt' : (k : Int) < 68 := by omega
      obtain ⟨D, hD⟩ : ∃ D, D = wr.heap.size := ⟨_, rfl⟩
      have HD : Kp (D ≤ wr.heap.size) := ⟨by omega⟩
      have HDlo : Kp (B + 1 ≤ D) := ⟨by rw [hD]; exact F5.out.lt⟩
      have HOB : Kp (∀ g, u9.ownBlock = some g → g < D) := ⟨fun g hg => by rw [hD]; exact F0.out.lt g hg⟩
      clear hD
      go_wp2_with fail
      refine wp_region_predQ (fun w' => Blk w' A (.cells #[.int .i64 d, .int .u32 x] 25) ∧ Row w' (A + 2) 29 .u8 y ∧ Row w' (A + 3) 22 .u8 (fill 16 []) ∧ Row w' B 33 .u8 dl ∧ TextsO w' (B + 1) u9 ts ∧ D ≤ w'.heap.size ∧ Below A w w') [0, 1, 2, 3, 4, 5, 6, 7, 8, 9, 10, 11, 12, 13] [12] [14, 15]
        (fun ι w' v => match ι with
          | 0 => v = nameV d x
          | 1 | 2 | 6 => v = .int .i64 k
          | 3 => v = .pointer (some ⟨B, k, none⟩)
          | 4 => v = .int .u8 g
          | 5 => v = .int .i64 g
          | 7 => v = .pointer (some ⟨A + 2, k * 16, none⟩)
          | 8 => v = dgV z
          | 11 => v = dgV u
          | 9 => ∃ t Q, v = .tuple #[dgV u, t] ∧ D ≤ Q ∧ TextsO w' Q t tz
          | 10 => ∃ t Q, v = .tuple #[dgV u, t] ∧ D ≤ Q ∧ TextsO w' Q t tz
          | 12 => ∃ Q, D ≤ Q ∧ TextsO w' Q v tz
          | 13 => ∃ gq, v = .pointer (some ⟨gq, 0, none⟩) ∧ B < gq ∧ Row w' gq 22 .u8 (fill 16 [])
          | _ => v = .bool true)
        [[], [], [], [(2, some 23)], [(3, some 24)], [(4, some 25)], [], [(6, some 27)], [(7, some 28)], [(0, some 21), (1, some 22), (5, some 26), (8, some 29)], [(9, some 30)], [(10, some 20)], [(10, some 20)], []]
        [[(10, some 20)]]
        [(0, some 21), (1, some 22), (2, some 23), (3, some 24), (4, some 25), (5, some 26), (6, some 27), (7, some 28), (8, some 29), (9, some 30), (10, some 20), (11, some 31), (12, some 32), (13, some 11)]
        (by kernel_rfl) (by kernel_rfl) (by kernel_rfl) (by kernel_rfl) (by kernel_rfl) (by kernel_rfl) (by kernel_rfl) (by decide) (by decide) (fun w1 w2 h hb => ⟨h.1.keep hb, h.2.1.keep hb, h.2.2.1.keep hb, h.2.2.2.1.keep hb, h.2.2.2.2.1.below hb, Nat.le_trans h.2.2.2.2.2.1 hb.size, h.2.2.2.2.2.2.trans (hb.mono (Nat.le_of_lt h.1.lt))⟩) (fun c a w d v h => by cases d <;> exact h) ?_ ⟨F1.out.draw, F2.out.drew, F3.out.drew, F5.out.drew, F0.out.drew, HD.out, F4.out.drew⟩ ?_ ?_ ?_
      · intro ι w1 w2 v h hb
        by_cases h9 : ι = 9
        · subst h9
          exact (show ∃ t Q, _ ∧ D ≤ Q ∧ TextsO w2 Q t tz from (by obtain ⟨t, Q, e, hq, ht⟩ := h; exact ⟨t, Q, e, hq, ht.below hb⟩))
        by_cases h10 : ι = 10
        · subst h10
          exact (show ∃ t Q, _ ∧ D ≤ Q ∧ TextsO w2 Q t tz from (by obtain ⟨t, Q, e, hq, ht⟩ := h; exact ⟨t, Q, e, hq, ht.below hb⟩))
        by_cases h12 : ι = 12
        · subst h12
          exact (show ∃ Q, D ≤ Q ∧ TextsO w2 Q v tz from (by obtain ⟨Q, hq, ht⟩ := h; exact ⟨Q, hq, ht.below hb⟩))
        by_cases h13 : ι = 13
        · subst h13
          exact (show ∃ gq, v = .pointer (some ⟨gq, 0, none⟩) ∧ B < gq ∧ Row w2 gq 22 .u8 (fill 16 []) from (by obtain ⟨gq, e, h1, hg⟩ := h; exact ⟨gq, e, h1, hg.keep hb⟩))
        match ι, h9, h10, h12, h13, h with
        | 0, _, _, _, _, h => exact h
        | 1, _, _, _, _, h => exact h
        | 2, _, _, _, _, h => exact h
        | 3, _, _, _, _, h => exact h
        | 4, _, _, _, _, h => exact h
        | 5, _, _, _, _, h => exact h
        | 6, _, _, _, _, h => exact h
        | 7, _, _, _, _, h => exact h
        | 8, _, _, _, _, h => exact h
        | 9, g, _, _, _, h => exact absurd rfl g
        | 10, _, g, _, _, h => exact absurd rfl g
        | 11, _, _, _, _, h => exact h
        | 12, _, _, g, _, h => exact absurd rfl g
        | 13, _, _, _, g, h => exact absurd rfl g
        | _ + 14, _, _, _, _, h => exact h
      · refine ⟨fun γ wx hS h => ?_, fun γ wx hS h => ?_, fun γ wx hS h => ?_, fun γ wx hS h => ?_, fun γ wx hS h => ?_, fun γ wx hS h => ?_, fun γ wx hS h => ?_, fun γ wx hS h => ?_, fun γ wx hS h => ?_, fun γ wx hS h => ?_, fun γ wx hS h => ?_, fun γ wx hS h => ?_, fun γ wx hS h => ?_, fun γ wx hS h => ?_, trivial⟩
        · refine ⟨_, rfl, Or.inl ⟨rfl, predRun_value (exec_load_blk 25 (.tmp 3) rfl (A) rfl 25 _ (0, 0) _ hS.1 Try.underlying25 rfl (cellsN24 d x)) rfl⟩⟩
        · refine ⟨_, rfl, Or.inl ⟨rfl, predRun_value (v := .int .i64 k) (by simp only [putE]; first | rfl | (go_simp; done) | (go_simp; with_reducible rfl) | (go_simp; rfl)) rfl⟩⟩
        · refine ⟨_, rfl, Or.inl ⟨rfl, predRun_value (v := .int .i64 k) (by simp only [putE]; first | rfl | (go_simp; done) | (go_simp; with_reducible rfl) | (go_simp; rfl)) rfl⟩⟩
        · have h2 := h
          have e2 : γ 2 = .int .i64 k := h2
          refine ⟨_, rfl, ?_⟩
          refine predOp_val (v := .pointer (some ⟨B, k, none⟩)) ?_ ?_ ?_
          · kernel_rfl
          · simp only [putE, e2]
            go_simp
          · rfl
        · have h3 := h
          have e3 : γ 3 = .pointer (some ⟨B, k, none⟩) := h3
          have hcell := hS.2.2.2.1.cell (i := k) (by rw [HDl.out]; exact hlt)
          rw [hdk.out] at hcell
          refine ⟨_, rfl, ?_⟩
          refine predOp_val (v := .int .u8 g) ?_ ?_ ?_
          · kernel_rfl
          · simp only [putE, e3]
            go_simp
          · rfl
        · have h4 := h
          have e4 : γ 4 = .int .u8 g := h4
          refine ⟨_, rfl, Or.inl ⟨rfl, predRun_value (v := .int .i64 g) (by simp only [putE, e4]; go_simp; exact IntWalk.i64_in _ (by omega)) rfl⟩⟩
        · refine ⟨_, rfl, Or.inl ⟨rfl, predRun_value (v := .int .i64 k) (by simp only [putE]; first | rfl | (go_simp; done) | (go_simp; with_reducible rfl) | (go_simp; rfl)) rfl⟩⟩
        · have h6 := h
          have e6 : γ 6 = .int .i64 k := h6
          refine ⟨_, rfl, ?_⟩
          refine predOp_val (v := .pointer (some ⟨A + 2, k * 16, none⟩)) ?_ ?_ ?_
          · kernel_rfl
          · simp only [putE, e6]
            go_simp
          · rfl
        · have h7 := h
          have e7 : γ 7 = .pointer (some ⟨A + 2, k * 16, none⟩) := h7
          refine ⟨_, rfl, Or.inl ⟨rfl, predRun_value (v := dgV z) (exec_load_mid (cs := kv .u8 z) rfl (by simp only [putE, e7]; rfl) (by rw [HZ.out]; exact hS.2.1.mid (by rw [HYl.out]; omega)) Try.underlying22 rfl (cellsLT25 HZl.out)) rfl⟩⟩
        · obtain ⟨h0, h1, h5, h8⟩ := h
          have e0 : γ 0 = nameV d x := h0
          have e1 : γ 1 = .int .i64 k := h1
          have e5 : γ 5 = .int .i64 g := h5
          have e8 : γ 8 = dgV z := h8
          refine ⟨_, rfl, Or.inl ⟨rfl, predRun_call (f := 12) (args := #[nameV d x, .int .i64 k, .int .i64 g, .int .i64 3, dgV z]) (by simp only [putE, e0, e1, e5, e8]; go_simp) ?_⟩⟩
          exact (rrun_any d x k g 3 z wx HX.out (by omega) (by omega) HZl.out HZb.out).mono fun e w2 ⟨v, h1, h2, h3⟩ => ⟨_, h1, ⟨v, wx.heap.size, (show Value.tuple #[dgV (runS d x k g z (3 - g)), v] = _ by rw [HU.out]), hS.2.2.2.2.2.1, (show TextsO w2 wx.heap.size v tz by rw [HTZ.out]; exact h2)⟩, h3⟩
        · have h9 := h
          have p9 : ∃ t Q, (γ 9) = .tuple #[dgV u, t] ∧ D ≤ Q ∧ TextsO wx Q t tz := h9
          obtain ⟨t, Q, e9, hq, ht⟩ := p9
          refine ⟨_, rfl, Or.inl ⟨rfl, predRun_value (v := .tuple #[dgV u, t]) (by simp only [putE, e9]; first | rfl | (go_simp; done) | (go_simp; rfl)) ⟨t, Q, rfl, hq, ht⟩⟩⟩
        · have h10 := h
          have p10 : ∃ t Q, (γ 10) = .tuple #[dgV u, t] ∧ D ≤ Q ∧ TextsO wx Q t tz := h10
          obtain ⟨t, Q, e10, hq, ht⟩ := p10
          refine ⟨_, rfl, Or.inl ⟨rfl, predRun_value (v := dgV u) (by simp only [putE, e10]; first | rfl | (go_simp; done) | (go_simp; rfl)) rfl⟩⟩
        · have h10 := h
          have p10 : ∃ t Q, (γ 10) = .tuple #[dgV u, t] ∧ D ≤ Q ∧ TextsO wx Q t tz := h10
          obtain ⟨t, Q, e10, hq, ht⟩ := p10
          refine ⟨_, rfl, Or.inl ⟨rfl, predRun_value (v := t) (by simp only [putE, e10]; first | rfl | (go_simp; done) | (go_simp; rfl)) ⟨Q, hq, ht⟩⟩⟩
        · refine ⟨_, rfl, Or.inl ⟨rfl, predRun_new (w' := wx.alloc z16r) (v := .pointer (some ⟨wx.heap.size, 0, none⟩)) (by simp only [putE]; first | rfl | (go_simp; done) | (go_simp; rfl)) (more (Below.refl _ _) _) ⟨_, rfl, hS.2.2.2.1.lt, Blk.new _ _⟩⟩⟩
      · refine ⟨fun γ wx hS h => ?_, trivial⟩
        · have h10 := h
          have p10 : ∃ t Q, (γ 10) = .tuple #[dgV u, t] ∧ D ≤ Q ∧ TextsO wx Q t tz := h10
          obtain ⟨t, Q, e10, hq, ht⟩ := p10
          refine ⟨_, t, rfl, Or.inl ⟨rfl, fun wz => by simp only [putE, e10]; first | rfl | (go_simp; done) | (go_simp; rfl)⟩, ⟨Q, hq, ht⟩⟩
      · intro γ w9 hS h
        have e11 : γ 11 = dgV u := h.2.2.2.2.2.2.2.2.2.2.2.1
        obtain ⟨Q, hDQ, h12⟩ : ∃ Q, D ≤ Q ∧ TextsO w9 Q (γ 12) tz := h.2.2.2.2.2.2.2.2.2.2.2.2.1
        obtain ⟨gq, e13, hAg, hg⟩ : ∃ gq, γ 13 = .pointer (some ⟨gq, 0, none⟩) ∧ B < gq ∧ Row w9 gq 22 .u8 (fill 16 []) := h.2.2.2.2.2.2.2.2.2.2.2.2.2
        simp only [putE, Act.put, List.setIfInBounds_toArray, List.set_cons_zero, List.set_cons_succ]
        rw [e11, e13]
        have HGA : Kp (Row w9 gq 22 .u8 (fill 16 [])) := ⟨hg⟩
        obtain ⟨W9, hW9⟩ : ∃ W9, W9 = w9.setRow gq (kv .u8 u).toArray := ⟨_, rfl⟩
        have EG : Kp (Row W9 gq 22 .u8 u) := ⟨by rw [hW9]; exact HGA.out.setRow u⟩
        have E0 : Kp (TextsO W9 (B + 1) u9 ts) := ⟨by rw [hW9]; exact hS.2.2.2.2.1.zero hg HTH.out _⟩
        have ET : Kp (TextsO W9 Q (γ 12) tz) := ⟨by rw [hW9]; exact h12.zero hg HZH.out _⟩
        have E1 : Kp (Blk W9 A (.cells #[.int .i64 d, .int .u32 x] 25)) := ⟨by rw [hW9]; exact (setRow_other w9 gq A _ (by omega)).trans hS.1⟩
        have E2 : Kp (Row W9 (A + 2) 29 .u8 y) := ⟨by rw [hW9]; exact Row.otherRow hS.2.1 (by omega) _⟩
        have E3 : Kp (Row W9 (A + 3) 22 .u8 (fill 16 [])) := ⟨by rw [hW9]; exact Row.otherRow hS.2.2.1 (by omega) _⟩
        have E5 : Kp (Row W9 B 33 .u8 dl) := ⟨by rw [hW9]; exact Row.otherRow hS.2.2.2.1 (by omega) _⟩
        have E6 : Kp (D ≤ W9.heap.size) := ⟨by rw [hW9]; simpa [World.setRow] using hS.2.2.2.2.2.1⟩
        have E4 : Kp (Below A w W9) := ⟨by rw [hW9]; exact Below.row hS.2.2.2.2.2.2 (by omega) _⟩
        have HWk := Kp.mk hW9
        have HDQ := Kp.mk hDQ
        clear h hS e11 e13 h12 hg F0 F1 F2 F3 F4 F5 hW9 hDQ
        generalize γ 12 = v12 at *
        refine wpOps_step rfl rfl ?_
        refine wp_store_row 22 (.tmp 11) (.tmp 31) rfl gq (kv .u8 u).toArray rfl rfl 22 _ HGA.out HC.out HZ16.out (kv_all _ _) ?_
        rw [← HWk.out]
        clear HWk HGA
        refine wpOps_step rfl rfl ?_
        refine wp_assign_end rfl rfl ?_
        refine wpOps_done ?_
        have HTHR := Kp.mk (E2.out.there (o := k * 16) (n := 16) (by rw [HYl.out]; omega))
        obtain ⟨V, hV⟩ : ∃ V, V = W9.setCells (A + 2) (k * 16) (kv .u8 u) := ⟨_, rfl⟩
        have D0 : Kp (TextsO V (B + 1) u9 ts) := ⟨by rw [hV]; exact E0.out.mid (by omega) _ _⟩
        have DT : Kp (TextsO V Q v12 tz) := ⟨by rw [hV]; exact ET.out.mid (by have := HDQ.out; have := HDlo.out; omega) _ _⟩
        have D1 : Kp (Blk V A (.cells #[.int .i64 d, .int .u32 x] 25)) := ⟨by rw [hV]; exact Blk.otherCells (by omega) _ _ _ E1.out⟩
        have D2 : Kp (Row V (A + 2) 29 .u8 (splice y (k * 16) u)) := ⟨by rw [hV]; exact Row.setCells u (k * 16) W9 y (by rw [HYl.out, HUl.out]; omega) E2.out⟩
        have D3 : Kp (Row V (A + 3) 22 .u8 (fill 16 [])) := ⟨by rw [hV]; exact Row.otherCells (by omega) _ _ _ E3.out⟩
        have D5 : Kp (Row V B 33 .u8 dl) := ⟨by rw [hV]; exact Row.otherCells (by omega) _ _ _ E5.out⟩
        have D4 : Kp (Below A w V) := ⟨by rw [hV]; exact Below.cells (by omega) _ _ _ _ E4.out⟩
        have D6 : Kp (B + 1 ≤ V.heap.size) := ⟨D5.out.lt⟩
        have HV := Kp.mk hV.symm
        clear hV E0 ET E1 E2 E3 E4 E5 E6
        go_wp2_with (first
          | (refine wpList_load_row rfl 22 (.tmp 11) rfl gq rfl 22 (kv .u8 u).toArray (0, 0) _ EG.out Try.underlying22 rfl HC.out ?_)
          | (refine wpList_store_mid rfl 22 (.tmp 35) (.tmp 34) rfl (A + 2) (k * 16) (kv .u8 u).toArray rfl rfl (by rw [kv_size, HUl.out]; exact HTHR.out) HC.out (kv_all _ _) ?_; refine wpl_world (· = V) HV.out ?_; clear HV; intro W0 e0; rw [e0]; clear e0)
          | (at_builtin; refine wpList_append_textsO rfl _ _ rfl (B + 1) u9 ts rfl D0.out Q v12 tz rfl DT.out ?c0 ?c1 ?c2 D6.out ?_))
        case c0 => have := HDQ.out; have := HDlo.out; omega
        case c1 => exact fun g hg => Nat.lt_of_lt_of_le (HOB.out g hg) HDQ.out
        case c2 => have := HTL.out; have := HTZl.out; omega
        intro v9' w9' k1 k2
        have X0 : Kp (TextsO w9' (B + 1) v9' (recTL d x m S (k + 1))) := ⟨by rw [HTn.out]; exact k1⟩
        have X1 : Kp (Blk w9' A (.cells #[.int .i64 d, .int .u32 x] 25)) := ⟨D1.out.upto k2 (by omega)⟩
        have X2 : Kp (Row w9' (A + 2) 29 .u8 (recL d x m S (k + 1))) := ⟨by rw [HYn.out]; exact D2.out.upto k2 (by omega)⟩
        have X3 : Kp (Row w9' (A + 3) 22 .u8 (fill 16 [])) := ⟨D3.out.upto k2 (by omega)⟩
        have X5 : Kp (Row w9' B 33 .u8 dl) := ⟨D5.out.upto k2 (by omega)⟩
        have X4 : Kp (Below A w w9') := ⟨D4.out.trans (k2.mono (by omega))⟩
        clear k1 k2 D0 DT D1 D2 D3 D4 D5 D6 HYn HTn
        go_wp2_with fail
        exact ⟨⟨k + 1, by omega, by go_num, X0, X1, X2, X3, X5, X4⟩, by simp [intOf]; omega⟩
    · obtain rfl : k = 68 := by omega
      have hge : ¬ ((68 : Nat) : Int) < 68 := by omega
      clear HOK
      have HTL : Kp ((recTL d x m S 68).length ≤ 204) := ⟨recTL_len d x m S 68⟩
      generalize hts : recTL d x m S 68 = ts at *
      generalize hy : recL d x m S 68 = y at *
      have HTS := Kp.mk hts
      have HYS := Kp.mk hy
      clear hts hy
      have HYl : Kp (y.length = 1088) := ⟨HYk.out.1⟩
      have HYb : Kp (Bytes y) := ⟨HYk.out.2⟩
      go_wp2_with (first
        | (refine wpList_load_row rfl 25 (.tmp 3) rfl A rfl 25 _ (0, 0) _ F1.out Try.underlying25 rfl (cellsN24 d x) ?_)
        | (refine wpList_load_row rfl 29 (.tmp 5) rfl (A + 2) rfl 29 (kv .u8 y).toArray (0, 0) _ F2.out Try.underlying29 rfl (cellsT43 HYl.out) ?_))
      refine (press_any d x y wr HX.out HYl.out HYb.out).mono ?_
      rintro q w3 ⟨v3, rfl, hh, hfr, hb⟩
      have HWL : Kp ((wholeT d x y).length = 1094) := ⟨by simp [wholeT, headL_len, HYl.out]⟩
      obtain ⟨tl, htl⟩ : ∃ tl, wholeT d x y = 80 :: tl := ⟨_, rfl⟩
      rw [htl] at hh HWL
      have HWT := Kp.mk htl
      clear htl
      have C0 : Kp (TextsO w3 (B + 1) u9 ts) := ⟨F0.out.below hb⟩
      have CH := Kp.mk hh
      have C3 := Kp.mk (F3.out.keep hb)
      have C4 : Kp (Below A w w3) := ⟨F4.out.trans (hb.mono (by have := F3.out.lt; omega))⟩
      have CF : Kp (∀ g, v3.ownBlock = some g → B + 1 ≤ g ∧ u9.ownBlock ≠ some g) := ⟨fun g hg => by
        have h1 := hfr g hg
        have h2 := F5.out.lt
        exact ⟨by omega, fun e => by have := F0.out.lt g e; omega⟩⟩
      have CB : Kp (B + 1 ≤ w3.heap.size) := ⟨by have := F5.out.lt; have := hb.size; omega⟩
      clear hh hfr hb F0 F1 F2 F3 F4 F5
      go_wp2_with fail
      refine (of_any _ _ 80 tl w3 CH.out (by have := HWL.out; simp at this; omega)).mono ?_
      rintro q w4 ⟨rfl, hb⟩
      obtain ⟨q0, hq⟩ : ∃ q, q = shortL (80 :: tl) := ⟨_, rfl⟩
      rw [← hq]
      have HQl : Kp (q0.length = 16) := ⟨by rw [hq]; exact shortL_len _⟩
      have HQ := Kp.mk hq
      clear hq
      obtain ⟨a1, n1, c1, rfl, -⟩ := CH.out.slice
      have M0 : Kp (TextsO (w4.alloc (.cells #[.slice a1 n1 c1] 30)) (B + 1) u9 ts) := ⟨(C0.out.below hb).below (more (Below.refl _ _) _)⟩
      have MH : Kp (HoldsB (w4.alloc (.cells #[.slice a1 n1 c1] 30)) (w4.alloc (.cells #[.slice a1 n1 c1] 30)).heap.size (.slice a1 n1 c1) (80 :: tl)) := ⟨(HoldsB.keep (HoldsB.keep CH.out hb) (more (Below.refl _ _) _)).mono (by have := hb.size; simp; omega)⟩
      have MC : Kp ((w4.alloc (.cells #[.slice a1 n1 c1] 30)).cell? ⟨w4.heap.size, 0, none⟩ = some (.slice a1 n1 c1)) := ⟨(Blk.new w4 (.cells #[.slice a1 n1 c1] 30)).cell 0⟩
      have M3 : Kp (Row (w4.alloc (.cells #[.slice a1 n1 c1] 30)) (A + 3) 22 .u8 (fill 16 [])) := ⟨Row.alloc (C3.out.keep hb) _⟩
      have M4 : Kp (Below A w (w4.alloc (.cells #[.slice a1 n1 c1] 30))) := ⟨(C4.out.trans (hb.mono (by have := C3.out.lt; omega))).alloc (by have := (C3.out.keep hb).lt; omega) _⟩
      have MB : Kp (B + 1 ≤ (w4.alloc (.cells #[.slice a1 n1 c1] 30)).heap.size) := ⟨by have := CB.out; have := hb.size; simp; omega⟩
      have MN : Kp (∀ x, a1 = some x → u9.ownBlock ≠ some x.block ∧ B + 1 ≤ x.block) := ⟨fun x hx => by
        have h := CF.out x.block (by rw [hx]; rfl)
        exact ⟨h.2, h.1⟩⟩
      clear hb C0 CH C3 C4 CF CB
      go_wp2_with (at_builtin; refine wpList_append_texto rfl _ _ rfl (B + 1) u9 ts rfl M0.out w4.heap.size a1 n1 c1 (80 :: tl) rfl MC.out MH.out MN.out (by simp) (by have := HTL.out; omega) MB.out ?_)
      intro v5 w5 k1 k2 k3
      have HCq := Kp.mk (cellsT25 HQl.out)
      have HZq := Kp.mk (size50 HQl.out)
      have N3 := Kp.mk (M3.out.upto k3 (by omega))
      have N4 : Kp (Below A w w5) := ⟨M4.out.trans (k3.mono (by omega))⟩
      have Y0 : Kp (TextsO (w5.setRow (A + 3) (kv .u8 q0).toArray) (B + 1) v5 (ts ++ [80 :: tl])) := ⟨k1.set (by omega) _⟩
      have Y3 : Kp (Row (w5.setRow (A + 3) (kv .u8 q0).toArray) (A + 3) 22 .u8 q0) := ⟨N3.out.setRow q0⟩
      have Y4 : Kp (Below A w (w5.setRow (A + 3) (kv .u8 q0).toArray)) := ⟨Below.row N4.out (by omega) _⟩
      clear k1 k2 k3 M0 MH MC M3 M4 MB MN
      go_wp2_with (refine wpList_store_row rfl 22 (.tmp 6) (.tmp 43) rfl (A + 3) (kv .u8 q0).toArray rfl rfl 22 _ N3.out HCq.out HZq.out (kv_all _ _) ?_)
      refine bodyPost_ret (v := .tuple #[dgV q0, v5]) ?_ rfl ⟨v5, by rw [HYS.out, HWT.out, ← HQ.out], by rw [HTS.out, HYS.out, HWT.out, ← HA.out]; exact Y0.out.base (by omega : A ≤ B + 1), by rw [← HA.out]; exact Y4.out⟩
      exact results_row_tmp rfl _ _ (A + 3) 22 _ (0, 0) _ _ rfl rfl Y3.out Try.underlying22 rfl HCq.out
end Go.Proofs.Ytpljjmdkagbjpaa

namespace Go.Proofs.Ytpljjmdkagbjpaa
open Go.RowKit

theorem infoA43 : (Try.prog.info? 43).map (·.size) = some 16 := by kernel_rfl
theorem cellsA43 {l : List Int} (h : l.length = 16) : (Try.prog.info? 43).map (·.size) = some (kv .u8 l).toArray.size := by rw [kv_size, h]; exact infoA43
/-- The blocks behind k digits. -/
def costU (m : List Int) : Nat → Int
  | 0 => 18
  | k + 1 => costU m k + (3 - digA m k)
theorem costU_range (m : List Int) (k : Nat) : 18 ≤ costU m k ∧ costU m k ≤ 18 + 3 * k := by
  induction k with
  | zero => simp [costU]
  | succ k ih =>
    have := digA_range m k
    show 18 ≤ costU m k + (3 - digA m k) ∧ costU m k + (3 - digA m k) ≤ _
    omega
set_option maxRecDepth 100000 in
set_option maxHeartbeats 2000000 in
theorem cost_any (m : List Int) (w : World) (hm : m.length = 16) (hmb : Bytes m) :
    Calls Try.prog 10 #[.agg (kv .u8 m).toArray] w fun q w' => q = .returned (.int .i64 (costU m 68)) ∧ Below w.heap.size w w' := by
  have HM := Kp.mk (And.intro hm hmb)
  have hC := fun (w : World) => box_row (t := 43) (cs := kv .u8 m) (cellsA43 hm) w
  have HC := Kp.mk (cellsA43 hm)
  clear hm hmb
  go_enter Try.func10, Try.ntmps10
  go_wp2_with (first
    | (refine wpList_box_eq rfl 43 (.tmp 0) rfl _ rfl _ _ (hC _) ?_)
    | (refine wpList_load_row rfl 43 (.tmp 1) rfl w.heap.size rfl 43 (kv .u8 m).toArray (0, 0) _ (Blk.newAt _ rfl) Try.underlying43 rfl HC.out ?_))
  clear hC
  refine (digits_any m _ HM.out.1 HM.out.2).mono ?_
  rintro r w1 ⟨rfl, hb⟩
  have HB : Kp (Below w.heap.size w w1) := ⟨(more (Below.refl _ _) _).trans (hb.mono (by simp))⟩
  have HDG : Kp (∀ c, c < 68 → (digS m).getD c 0 = digA m c) := ⟨fun c hc => digS_at m hc⟩
  have HDl : Kp ((digS m).length = 68) := ⟨digS_len m⟩
  generalize digS m = dl at *
  clear hb
  go_wp2_with fail
  go_loop [3, 5, 8] (fun n _ i => ∃ k : Nat, k ≤ 68 ∧ i = .int .i64 k ∧ n = .int .i64 (costU m k)) (fun _ _ i => 68 - (intOf i).toNat)
  case atStart => exact ⟨0, by omega, rfl, rfl⟩
  case round =>
    obtain ⟨k, hk, rfl, rfl⟩ := hrel
    by_cases hlt : k < 68
    · have hlt' : (k : Int) < 68 := by omega
      have hix := index_arr51 dl k HDl.out hlt
      rw [HDG.out k hlt] at hix
      obtain ⟨hg1, hg2⟩ := digA_range m k
      obtain ⟨hc1, hc2⟩ := costU_range m k
      have HN : Kp (costU m (k + 1) = costU m k + (3 - digA m k)) := ⟨rfl⟩
      generalize digA m k = g at *
      generalize costU m k = c at *
      go_wp2_with fail
      go_round
      case rel => exact ⟨k + 1, by omega, by go_num, by rw [HN.out]⟩
      case measure => simp [intOf]; omega
    · obtain rfl : k = 68 := by omega
      have hge : ¬ ((68 : Nat) : Int) < 68 := by omega
      go_wp2_with fail
      go_ret
      exact ⟨rfl, HB.out⟩
set_option maxRecDepth 100000 in
set_option maxHeartbeats 2000000 in
theorem rcost_any (m : List Int) (w : World) (hm : m.length = 16) (hmb : Bytes m) :
    Calls Try.prog 11 #[.agg (kv .u8 m).toArray] w fun q w' => q = .returned (.int .i64 (costU m 68)) ∧ Below w.heap.size w w' := by
  have HM := Kp.mk (And.intro hm hmb)
  have hC := fun (w : World) => box_row (t := 22) (cs := kv .u8 m) (cellsT25 hm) w
  have HC := Kp.mk (cellsT25 hm)
  clear hm hmb
  go_enter Try.func11, Try.ntmps11
  go_wp2_with (first
    | (refine wpList_box_eq rfl 22 (.tmp 0) rfl _ rfl _ _ (hC _) ?_)
    | (refine wpList_load_row rfl 22 (.tmp 1) rfl w.heap.size rfl 22 (kv .u8 m).toArray (0, 0) _ (Blk.newAt _ rfl) Try.underlying22 rfl HC.out ?_))
  clear hC
  refine (rdigits_any m _ HM.out.1 HM.out.2).mono ?_
  rintro r w1 ⟨rfl, hb⟩
  obtain ⟨B, hB⟩ : ∃ B, B = w1.heap.size := ⟨_, rfl⟩
  have HBe := Kp.mk hB
  have HBw : Kp (w.heap.size ≤ B) := ⟨by have := hb.size; simp at this; omega⟩
  have HB : Kp (Below w.heap.size w w1) := ⟨(more (Below.refl _ _) _).trans (hb.mono (by simp))⟩
  have HDG : Kp (∀ c, c < 68 → (digS m).getD c 0 = digA m c) := ⟨fun c hc => digS_at m hc⟩
  have HDl : Kp ((digS m).length = 68) := ⟨digS_len m⟩
  generalize digS m = dl at *
  have HC51 : Kp ((Try.prog.info? 33).map (·.size) = some (kv .u8 dl).toArray.size) := ⟨by rw [show (kv .u8 dl).toArray.size = 68 by simp [HDl.out]]; exact size33⟩
  have HZ51 : Kp ((kv .u8 (List.replicate 68 0)).toArray.size = (kv .u8 dl).toArray.size) := ⟨by rw [kv_size, kv_size, HDl.out]; simp⟩
  clear hb
  go_wp2_with (first
    | (refine wpList_alloc_row rfl 33 rfl _ _ info33 ?_; rw [← hB]; clear hB; refine wpl_world (fun w2 => Row w2 B 33 .u8 (List.replicate 68 0) ∧ Below w.heap.size w w2) ⟨Blk.newAt _ HBe.out, HB.out.alloc (by have := HBe.out; have := HBw.out; omega) _⟩ ?_; rintro W2 ⟨h0, h4⟩; have K0 := Kp.mk h0; have K4 := Kp.mk h4; clear h0 h4)
    | (refine wpList_store_row rfl 33 (.tmp 3) (.tmp 7) rfl B (kv .u8 dl).toArray rfl rfl 33 _ K0.out HC51.out HZ51.out (kv_all _ _) ?_; refine wpl_world (fun w2 => Row w2 B 33 .u8 dl ∧ Below w.heap.size w w2) ⟨K0.out.setRow dl, Below.row K4.out HBw.out _⟩ ?_; rintro W3 ⟨h0, h4⟩; have L0 := Kp.mk h0; have L4 := Kp.mk h4; clear h0 h4 K0 K4))
  go_loop [4, 5] (fun n i => ∃ k : Nat, k ≤ 68 ∧ i = .int .i64 k ∧ n = .int .i64 (costU m k)) (fun _ i => 68 - (intOf i).toNat)
  case atStart => exact ⟨0, by omega, rfl, rfl⟩
  case round =>
    obtain ⟨k, hk, rfl, rfl⟩ := hrel
    by_cases hlt : k < 68
    · have hlt' : (k : Int) < 68 := by omega
      have hcell := L0.out.cell (i := k) (by rw [HDl.out]; exact hlt)
      rw [HDG.out k hlt] at hcell
      obtain ⟨hg1, hg2⟩ := digA_range m k
      obtain ⟨hc1, hc2⟩ := costU_range m k
      have HN : Kp (costU m (k + 1) = costU m k + (3 - digA m k)) := ⟨rfl⟩
      generalize digA m k = g at *
      generalize costU m k = c at *
      go_wp2_with fail
      go_round
      case rel => exact ⟨k + 1, by omega, by go_num, by rw [HN.out]; congr 1; omega⟩
      case measure => simp [intOf]; omega
    · obtain rfl : k = 68 := by omega
      have hge : ¬ ((68 : Nat) : Int) < 68 := by omega
      go_wp2_with fail
      go_ret
      exact ⟨rfl, L4.out⟩
end Go.Proofs.Ytpljjmdkagbjpaa

namespace Go.Proofs.Ytpljjmdkagbjpaa
open Go.RowKit

theorem zeros16 : digA (List.replicate 16 0) 0 = 0 ∧ digA (List.replicate 16 0) 64 = 3 ∧ digA (List.replicate 16 0) 65 = 0 := by decide +kernel
set_option maxRecDepth 100000 in
set_option maxHeartbeats 4000000 in
theorem awake_any (w : World) : Calls Try.prog 7 #[] w fun r w' => r = .returned (.bool true) ∧ Below w.heap.size w w' := by
  go_enter Try.func7, Try.ntmps7
  go_wp2_with fail
  refine (digits_any (List.replicate 16 0) w (by simp) (by intro x hx; have := (List.mem_replicate.1 hx).2; omega)).mono ?_
  rintro r w1 ⟨rfl, hb⟩
  have HB := Kp.mk hb
  have h0 := digS_at (List.replicate 16 0) (c := 0) (by omega)
  have h1 := digS_at (List.replicate 16 0) (c := 64) (by omega)
  have h2 := digS_at (List.replicate 16 0) (c := 65) (by omega)
  rw [zeros16.1] at h0
  rw [zeros16.2.1] at h1
  rw [zeros16.2.2] at h2
  have hl := digS_len (List.replicate 16 0)
  generalize digS (List.replicate 16 0) = dl at *
  have HL := Kp.mk hl
  have H0 := Kp.mk (And.intro h0 (And.intro h1 h2))
  clear hb h0 h1 h2 hl
  have HC33 : Kp ((Try.prog.info? 33).map (·.size) = some (kv .u8 dl).toArray.size) := ⟨by rw [show (kv .u8 dl).toArray.size = 68 by simp [HL.out]]; exact size33⟩
  have HZ : Kp ((kv .u8 (List.replicate 68 0)).toArray.size = (kv .u8 dl).toArray.size) := ⟨by rw [kv_size, kv_size, HL.out]; simp⟩
  obtain ⟨B, hB⟩ : ∃ B, B = w1.heap.size := ⟨_, rfl⟩
  have HBe := Kp.mk hB
  go_wp2_with (first
    | (refine wpList_alloc_row rfl 33 rfl _ _ info33 ?_; rw [← hB]; clear hB; refine wpl_world (fun w2 => Row w2 B 33 .u8 (List.replicate 68 0) ∧ Below w.heap.size w w2) ⟨Blk.newAt _ HBe.out, HB.out.alloc HB.out.size _⟩ ?_; rintro W2 ⟨h1, h2⟩; have K1 := Kp.mk h1; have K2 := Kp.mk h2; clear h1 h2)
    | (refine wpList_store_row rfl 33 (.tmp 1) (.tmp 3) rfl B (kv .u8 dl).toArray rfl rfl 33 _ K1.out HC33.out HZ.out (kv_all _ _) ?_; refine wpl_world (fun w2 => Row w2 B 33 .u8 dl ∧ Below w.heap.size w w2) ⟨K1.out.setRow dl, Below.row K2.out (by have := HBe.out; have := HB.out.size; omega) _⟩ ?_; rintro W3 ⟨h1, h2⟩; have K3 := Kp.mk h2; have c0 := h1.cell (i := 0) (by rw [HL.out]; omega); have c1 := h1.cell (i := 64) (by rw [HL.out]; omega); have c2 := h1.cell (i := 65) (by rw [HL.out]; omega); rw [H0.out.1] at c0; rw [H0.out.2.1] at c1; rw [H0.out.2.2] at c2; clear h1 h2))
  go_ret
  exact ⟨rfl, K3.out⟩
end Go.Proofs.Ytpljjmdkagbjpaa
