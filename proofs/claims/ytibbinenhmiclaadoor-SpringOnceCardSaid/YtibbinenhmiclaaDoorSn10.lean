/-
  As FlowP, where some pure operations (ps) are not waited for by the end: they may come up behind it; they are taken as soon as they are ready.
-/
import Derived.Test.YtibbinenhmiclaaDoorSn09
namespace Go.Proofs.YtibbinenhmiclaaDoor
open Go.RowKit

section
variable {P : Program} {ops : Array Oper} {Q : Exit → Act → World → Prop} {S : World → Prop}

/-- oj waits for number x by an edge of its own. -/
def direct (oj : Oper) (x : Nat) : Bool := oj.after.any fun e => Region.binds .any e && e.on == x
theorem direct_spec {oj : Oper} {x : Nat} : direct oj x = true ↔ ∃ e ∈ oj.after, Region.binds .any e = true ∧ e.on = x := by
  unfold direct
  simp only [Array.any_eq_true', Bool.and_eq_true, beq_iff_eq]
def vsOk (ops : Array Oper) (vs : List Nat) (j : Nat) : Bool := match ops[j]? with
  | some oj => (oj.after.all fun e => !Region.binds .any e || (vs.contains e.on && decide (e.on < j))) &&
      (vs.all fun i => !decide (i < j) || direct oj i || (match ops[i]? with | some oi => oi.apart ops oj | none => false))
  | none => false
def bsOk (ops : Array Oper) (vs ps bs : List Nat) (j k : Nat) : Bool := match ops[j]? with
  | some oj => (oj.after.all fun e => !Region.binds .any e || vs.contains e.on || (bs.take k).contains e.on) && ((bs.take k).all fun x => direct oj x) &&
      (vs.all fun x => direct oj x || (ps.contains x && (depsOf ops vs x).all fun d => direct oj d))
  | none => false
def freeOk (ops : Array Oper) (i : Nat) : Bool := (List.range ops.size).all fun j => j == i || match ops[i]?, ops[j]? with | some oi, some oj => direct oj i || direct oi j || oi.apart ops oj | _, _ => false
def partsOkQ (ops : Array Oper) (vs ps bs : List Nat) : Bool :=
  ((List.range ops.size).all fun i => vs.contains i || bs.contains i) && (vs.all fun i => decide (i < ops.size) && !bs.contains i) && (bs.all fun i => decide (i < ops.size)) && decide (vs.Pairwise (· < ·)) && (ps.all fun i => vs.contains i) &&
  (vs.all fun j => vsOk ops vs j) && (bs.zipIdx.all fun q => bsOk ops vs ps bs q.1 q.2) && (ps.all fun i => freeOk ops i)
structure PartsQ (ops : Array Oper) (vs ps bs : List Nat) : Prop where
  all : ∀ i, i < ops.size → i ∈ vs ∨ i ∈ bs
  v : ∀ i ∈ vs, i < ops.size ∧ i ∉ bs
  b : ∀ i ∈ bs, i < ops.size
  lt : vs.Pairwise (· < ·)
  p : ∀ i ∈ ps, i ∈ vs
  vd : ∀ j ∈ vs, ∀ oj, ops[j]? = some oj → (∀ e ∈ oj.after, Region.binds .any e = true → e.on ∈ vs ∧ e.on < j) ∧ (∀ i ∈ vs, i < j → ∀ oi, ops[i]? = some oi → (∀ e ∈ oj.after, Region.binds .any e = true → e.on ≠ i) → oi.apart ops oj = true)
  bd : ∀ (k j : Nat), bs[k]? = some j → ∀ oj, ops[j]? = some oj → (∀ e ∈ oj.after, Region.binds .any e = true → e.on ∈ vs ∨ e.on ∈ bs.take k) ∧ (∀ x ∈ bs.take k, direct oj x = true) ∧ (∀ x ∈ vs, direct oj x = true ∨ (x ∈ ps ∧ ∀ d ∈ depsOf ops vs x, direct oj d = true))
  free : ∀ i ∈ ps, ∀ oi, ops[i]? = some oi → ∀ j oj, ops[j]? = some oj → j ≠ i → (∀ e ∈ oi.after, Region.binds .any e = true → e.on ≠ j) → (∀ e ∈ oj.after, Region.binds .any e = true → e.on ≠ i) → oi.apart ops oj = true
theorem partsQ_of {vs ps bs : List Nat} (h : partsOkQ ops vs ps bs = true) : PartsQ ops vs ps bs := by
  unfold partsOkQ at h
  simp only [Bool.and_eq_true, List.all_eq_true, decide_eq_true_eq, List.mem_range, Bool.or_eq_true, Bool.not_eq_true', List.contains_eq_mem, decide_eq_false_iff_not] at h
  obtain ⟨⟨⟨⟨⟨⟨⟨h1, h2⟩, h3⟩, h4⟩, h5⟩, h6⟩, h7⟩, h8⟩ := h
  refine ⟨h1, h2, h3, h4, h5, fun j hj oj hoj => ?_, fun k j hk oj hoj => ?_, fun i hi oi hoi j oj hoj hne hnj hno => ?_⟩
  · have h := h6 j hj
    unfold vsOk at h
    rw [hoj] at h
    simp only [Bool.and_eq_true, Array.all_eq_true_iff_forall_mem, List.all_eq_true, Bool.or_eq_true, Bool.not_eq_true', decide_eq_true_eq, decide_eq_false_iff_not, List.contains_eq_mem] at h
    refine ⟨fun e he hb => ?_, fun i hi hij oi hoi hno => ?_⟩
    · rcases h.1 e he with g | g
      · rw [hb] at g; cases g
      · exact g
    · rcases h.2 i hi with (g | g) | g
      · exact absurd hij g
      · obtain ⟨e, he, hb, heq⟩ := direct_spec.1 g
        exact absurd heq (hno e he hb)
      · rw [hoi] at g; exact g
  · have hm : (j, k) ∈ bs.zipIdx := by rw [List.mem_zipIdx_iff_getElem?]; exact hk
    have h := h7 _ hm
    unfold bsOk at h
    simp only [hoj, Bool.and_eq_true, Array.all_eq_true_iff_forall_mem, List.all_eq_true, Bool.or_eq_true, Bool.not_eq_true', decide_eq_true_eq, List.contains_eq_mem] at h
    refine ⟨fun e he hb => ?_, h.1.2, h.2⟩
    rcases h.1.1 e he with (g | g) | g
    · rw [hb] at g; cases g
    · exact .inl g
    · exact .inr g
  · have h := h8 i hi
    unfold freeOk at h
    simp only [List.all_eq_true, List.mem_range, Bool.or_eq_true, beq_iff_eq] at h
    have g := h j (Array.getElem?_eq_some_iff.1 hoj).1
    rw [hoi, hoj] at g
    rcases g with g | g
    · exact absurd g hne
    · simp only [Bool.or_eq_true] at g
      rcases g with (g | g) | g
      · obtain ⟨e, he, hb, heq⟩ := direct_spec.1 g
        exact absurd heq (hno e he hb)
      · obtain ⟨e, he, hb, heq⟩ := direct_spec.1 g
        exact absurd heq (hnj e he hb)
      · exact g

/-- The end: one behind the other. -/
theorem wpAny_endQ {vs ps bs : List Nat} (hok : PartsQ ops vs ps bs) : ∀ (rest : List Nat) (k : Nat) (fuel : Nat) (listed : Array Bool) (a : Act) (w : World),
    bs.drop k = rest → listed.size = ops.size → rest.length ≤ fuel → bs.Nodup → (∀ i, i < ops.size → (listed.getD i false = true ↔ i ∉ rest)) →
    wpOps P ops Q rest a w → wpAny P .any ops Q fuel listed a w := by
  intro rest
  induction rest with
  | nil =>
    intro k fuel listed a w hd hsz hf hbnd hl h
    have hr : Region.ready .any ops listed = [] := by
      rw [List.eq_nil_iff_forall_not_mem]
      intro i hi
      obtain ⟨h0, o, ho, _⟩ := mem_ready.1 hi
      have hin := (Array.getElem?_eq_some_iff.1 ho).1
      have := (hl i hin).2 (by simp)
      rw [getD_flip (by omega)] at h0
      rw [h0] at this
      cases this
    cases fuel with
    | zero => exact ⟨hr, h⟩
    | succ fuel => exact ⟨fun _ => h, by rw [hr]; simp⟩
  | cons j rest ih =>
    intro k fuel listed a w hd hsz hf hbnd hl h
    cases fuel with
    | zero => simp at hf
    | succ fuel =>
      have hk : bs[k]? = some j := by
        have := congrArg (fun l => l[0]?) hd
        simpa using this
      have hjb : j ∈ bs := List.mem_of_getElem? hk
      have hjn := hok.b j hjb
      have hdrop : bs.drop (k + 1) = rest := by
        rw [← List.drop_drop, hd]; rfl
      have hbs' : bs = bs.take k ++ j :: rest := by rw [← hd, List.take_append_drop]
      have hnd' : (bs.take k ++ j :: rest).Nodup := hbs' ▸ hbnd
      have hjr : j ∉ rest := fun hm => (List.nodup_cons.1 (List.nodup_append.1 hnd').2.1).1 hm
      have hjf : listed.getD j false = false := by
        have hne : ¬ listed.getD j false = true := fun hx => ((hl j hjn).1 hx) (by simp)
        simpa using hne
      have hunl : listed.getD j true = false := by rw [getD_flip (by omega)]; exact hjf
      obtain ⟨oj, hoj⟩ : ∃ o, ops[j]? = some o := ⟨_, Array.getElem?_eq_getElem hjn⟩
      have hone : ∀ i, i ∈ Region.ready .any ops listed → i = j := fun i hi => by
        obtain ⟨h0, o, ho, hdeps⟩ := mem_ready.1 hi
        have hin := (Array.getElem?_eq_some_iff.1 ho).1
        have hir : i ∈ j :: rest := by
          false_or_by_contra
          rename_i hno
          have := (hl i hin).2 hno
          rw [getD_flip (by omega)] at h0
          rw [h0] at this
          cases this
        cases hir with
        | head => rfl
        | tail _ hir =>
          exfalso
          obtain ⟨m, hm⟩ := List.getElem?_of_mem hir
          have hbi : bs[k + 1 + m]? = some i := by
            have := congrArg (fun l => l[m]?) hdrop
            simp only [List.getElem?_drop] at this
            rw [this, hm]
          have hjt : j ∈ bs.take (k + 1 + m) := List.mem_of_getElem? (i := k) (by rw [List.getElem?_take, if_pos (by omega)]; exact hk)
          obtain ⟨e, he, hb, heq⟩ := direct_spec.1 ((hok.bd _ i hbi o ho).2.1 j hjt)
          have := hdeps e he hb
          rw [heq, hjf] at this
          cases this
      have hready : j ∈ Region.ready .any ops listed := by
        rw [mem_ready]
        refine ⟨hunl, oj, hoj, fun e he hb => ?_⟩
        rcases (hok.bd k j hk oj hoj).1 e he hb with h1 | h1
        · exact (hl _ (hok.v _ h1).1).2 fun hm => (hok.v _ h1).2 (hbs' ▸ List.mem_append_right _ hm)
        · exact (hl _ (hok.b _ (List.mem_of_mem_take h1))).2 fun hm => (List.nodup_append.1 hnd').2.2 _ h1 _ hm rfl
      refine ⟨fun hr => (by rw [hr] at hready; cases hready), fun i hi => ?_⟩
      obtain rfl := hone i hi
      rw [wpOps_cons] at h
      refine wpOp_mono (fun a' w' h' => ih (k + 1) fuel _ a' w' hdrop (by simpa using hsz) (by simp at hf; omega) hbnd (fun x hx => ?_) h') h
      rw [listed_set (by omega)]
      by_cases hxi : x = i
      · subst hxi
        simp [hjr]
      · rw [if_neg hxi, hl x hx]
        simp [hxi]
theorem wpAny_predQ (hmono : Stays S) (hs : ∀ (j : Nat) (o : Oper) cs b, ops[j]? = some o → o.op ≠ .select cs b) {vs ps bs : List Nat} (hok : PartsQ ops vs ps bs) (hdst : dstsOk ops vs = true) (hbnd : bs.Nodup)
    (hQ : ∀ c a w d v, Q (.panic c) (Act.put a d v) w → Q (.panic c) a w)
    {Φ : Nat → World → Value → Prop} (hΦ : ∀ i w w' v, Φ i w v → Below w.heap.size w w' → Φ i w' v) {a0 : Act}
    (need : ∀ i ∈ vs, ∀ (γ : Nat → Value) (w : World), S w → (∀ d ∈ depsOf ops vs i, Φ d w (γ d)) → ∃ o, ops[i]? = some o ∧ PredOp P ops o (Φ i) (putD ops γ (depsOf ops vs i) a0) w)
    (pure : ∀ i ∈ ps, ∀ (γ : Nat → Value) (w : World), S w → (∀ d ∈ depsOf ops vs i, Φ d w (γ d)) → ∃ o v, ops[i]? = some o ∧ Yields P ops o v (putD ops γ (depsOf ops vs i) a0) ∧ Φ i w v)
    (hD : ∀ (γ : Nat → Value) (w : World), S w → (∀ i ∈ vs, Φ i w (γ i)) → wpOps P ops Q bs (putD ops γ vs a0) w) :
    ∀ (fuel : Nat) (listed : Array Bool) (γ : Nat → Value) (L : List Nat) (w : World), listed.size = ops.size → L.Nodup → (∀ i ∈ L, i ∈ vs) → (∀ i ∈ vs, i ∈ L ↔ listed.getD i false = true) → (∀ i ∈ bs, listed.getD i false = false) →
      Closed ops listed → (vs.filter fun i => !L.contains i).length + bs.length ≤ fuel → S w → (∀ i ∈ L, Φ i w (γ i)) → wpAny P .any ops Q fuel listed (putD ops γ L a0) w := by
  have hnd : vs.Nodup := hok.lt.imp fun h => by omega
  have hdd := dstsOk_spec hdst
  have hend : ∀ (fuel : Nat) (listed : Array Bool) (γ : Nat → Value) (L : List Nat) (w : World), listed.size = ops.size → L.Nodup → (∀ i ∈ L, i ∈ vs) → (∀ i ∈ vs, i ∈ L ↔ listed.getD i false = true) → (∀ i ∈ bs, listed.getD i false = false) →
      bs.length ≤ fuel → S w → (∀ i ∈ L, Φ i w (γ i)) → (∀ i ∈ vs, i ∈ L) → wpAny P .any ops Q fuel listed (putD ops γ L a0) w := by
    intro fuel listed γ L w hsz hLn hLv hl hbl hf hS hg hfull
    have hp : L.Perm vs := (List.perm_ext_iff_of_nodup hLn hnd).2 fun x => ⟨hLv x, hfull x⟩
    rw [putD_perm γ hp (fun x hx y hy => hdd x (hLv x hx) y (hLv y hy)) a0]
    refine wpAny_endQ hok bs 0 fuel listed _ w rfl hsz hf hbnd (fun i hi => ?_) (hD γ w hS fun i hi => hg i (hfull i hi))
    rcases hok.all i hi with h | h
    · exact ⟨fun _ hib => (hok.v i h).2 hib, fun _ => (hl i h).1 (hfull i h)⟩
    · exact ⟨fun ht => (by rw [hbl i h] at ht; cases ht), fun hn => absurd h hn⟩
  intro fuel
  induction fuel with
  | zero =>
    intro listed γ L w hsz hLn hLv hl hbl _ hf hS hg
    have h0 : (vs.filter fun i => !L.contains i) = [] := List.length_eq_zero_iff.1 (by omega)
    refine hend 0 listed γ L w hsz hLn hLv hl hbl (by omega) hS hg fun i hi => ?_
    have := List.filter_eq_nil_iff.1 h0 i hi
    simpa using this
  | succ fuel ih =>
    intro listed γ L w hsz hLn hLv hl hbl hcl hf hS hg
    by_cases hfull : ∀ i ∈ vs, i ∈ L
    · exact hend _ listed γ L w hsz hLn hLv hl hbl (by omega) hS hg hfull
    -- what has come up besides does not matter
    have htrans : ∀ i ∈ vs, ∀ oi, ops[i]? = some oi → i ∈ Region.ready .any ops listed → i ∉ L ∧ (∀ d ∈ depsOf ops vs i, d ∈ L) ∧
        execOp (putD ops γ L a0).eval oi = execOp (putD ops γ (depsOf ops vs i) a0).eval oi ∧ Region.wanted oi (yielded ops (putD ops γ L a0).tmps) = Region.wanted oi (yielded ops (putD ops γ (depsOf ops vs i) a0).tmps) := by
      intro i hiv oi hoi hi
      obtain ⟨h0, o', ho', hdeps⟩ := mem_ready.1 hi
      rw [hoi] at ho'
      cases ho'
      have hin : i < ops.size := (hok.v i hiv).1
      have h0' : listed.getD i false = false := by rw [← getD_flip (by rw [hsz]; exact hin)]; exact h0
      have hiL : i ∉ L := fun h => by rw [(hl i hiv).1 h] at h0'; cases h0'
      have hdL : ∀ d ∈ depsOf ops vs i, d ∈ L := fun d hd => by
        obtain ⟨hdv, e, he, hb, heq⟩ := (mem_depsOf hoi).1 hd
        have := hdeps e he hb
        rw [heq] at this
        exact (hl d hdv).2 this
      have hp : L.Perm (depsOf ops vs i ++ L.filter fun x => !(depsOf ops vs i).contains x) := by
        have h1 := (List.filter_append_perm (fun x => (depsOf ops vs i).contains x) L).symm
        refine h1.trans (List.Perm.append_right _ ?_)
        refine (List.perm_ext_iff_of_nodup (hLn.filter _) (hnd.filter _)).2 fun x => ?_
        rw [List.mem_filter]
        simp only [List.contains_eq_mem, decide_eq_true_eq]
        exact ⟨fun h => h.2, fun h => ⟨hdL x h, h⟩⟩
      have hput : putD ops γ L a0 = putD ops γ (L.filter fun x => !(depsOf ops vs i).contains x) (putD ops γ (depsOf ops vs i) a0) := by
        rw [putD_perm γ hp (fun x hx y hy => hdd x (hLv x hx) y (hLv y hy)) a0, putD_append]
      have hsame := same_putD (ops := ops) γ oi (fun cs b => hs i oi cs b hoi) (L.filter fun x => !(depsOf ops vs i).contains x) (putD ops γ (depsOf ops vs i) a0) fun x hx t ht => by
        obtain ⟨hxL, hxd⟩ := List.mem_filter.1 hx
        have hxv := hLv x hxL
        have hxo := Array.getElem?_eq_getElem (hok.v x hxv).1
        have hxd' : x ∉ depsOf ops vs i := by simpa using hxd
        have hdx : (ops[x]'(hok.v x hxv).1).dst = some t := by
          unfold dstOf at ht
          rw [hxo] at ht
          exact ht
        have hno : ∀ e ∈ oi.after, Region.binds .any e = true → e.on ≠ x := fun e he hb heq => hxd' ((mem_depsOf hoi).2 ⟨hxv, e, he, hb, heq⟩)
        have hne : x ≠ i := fun e => hiL (e ▸ hxL)
        rcases Nat.lt_or_gt_of_ne hne with hxi | hxi
        · exact (Oper.apart_spec ((hok.vd i hiv oi hoi).2 x hxv hxi _ hxo hno)).1 t hdx
        · have hap := (hok.vd x hxv _ hxo).2 i hiv hxi oi hoi fun e he hb heq => by
            have := hcl x _ e ((hl x hxv).1 hxL) hxo he hb
            rw [heq, h0'] at this
            cases this
          exact (Oper.apart_spec hap).2.2 t hdx
      rw [hput]
      exact ⟨hiL, hdL, hsame.1, hsame.2⟩
    -- one more has come up
    have hstep : ∀ i ∈ vs, ∀ oi, ops[i]? = some oi → i ∈ Region.ready .any ops listed → i ∉ L → ∀ v w', Φ i w' v → Below w.heap.size w w' → wpAny P .any ops Q fuel (listed.setIfInBounds i true) ((putD ops γ L a0).put oi.dst v) w' := by
      intro i hiv oi hoi hi hiL v w' hv hb
      have hin : i < ops.size := (hok.v i hiv).1
      have hγ : (putD ops γ L a0).put oi.dst v = putD ops (fun k => if k = i then v else γ k) (L ++ [i]) a0 := by
        rw [putD_append, putD_congr (γ := fun k => if k = i then v else γ k) (γ' := γ) L a0 fun k hk => (if_neg (fun e : k = i => hiL (e ▸ hk)) : (if k = i then v else γ k) = γ k)]
        show (putD ops γ L a0).put oi.dst v = (putD ops γ L a0).put (dstOf ops i) (if i = i then v else γ i)
        rw [if_pos rfl]
        unfold dstOf
        rw [hoi]
        rfl
      rw [hγ]
      refine ih _ _ _ _ (by simpa using hsz) ?_ ?_ ?_ ?_ (closed_set hcl hi) ?_ (hmono _ _ hS hb) ?_
      · rw [List.nodup_append]
        exact ⟨hLn, by simp, fun x hx y hy e => by simp at hy; exact hiL (hy ▸ e ▸ hx)⟩
      · intro x hx
        rcases List.mem_append.1 hx with h | h
        · exact hLv x h
        · simp at h; exact h ▸ hiv
      · intro x hx
        rw [listed_set (by rw [hsz]; exact hin), List.mem_append]
        by_cases hxi : x = i
        · subst hxi; simp
        · rw [if_neg hxi, ← hl x hx]; simp [hxi]
      · intro x hx
        have hxi : x ≠ i := fun e => (hok.v i hiv).2 (e ▸ hx)
        rw [listed_set (by rw [hsz]; exact hin), if_neg hxi]
        exact hbl x hx
      · have hlen : (vs.filter fun x => !(L ++ [i]).contains x).length < (vs.filter fun x => !L.contains x).length := by
          have hsub : (vs.filter fun x => !(L ++ [i]).contains x) = (vs.filter fun x => !L.contains x).filter fun x => x != i := by
            rw [List.filter_filter]
            congr 1
            funext x
            simp only [List.contains_eq_mem, List.mem_append, List.mem_singleton]
            by_cases h1 : x ∈ L <;> by_cases h2 : x = i <;> simp [h1, h2]
          rw [hsub]
          refine List.length_filter_lt_length_iff_exists.2 ⟨i, List.mem_filter.2 ⟨hiv, by simpa using hiL⟩, by simp⟩
        omega
      · intro x hx
        rcases List.mem_append.1 hx with h | h
        · have hxi : x ≠ i := fun e => hiL (e ▸ h)
          show Φ x w' (if x = i then v else γ x)
          rw [if_neg hxi]
          exact hΦ x w w' _ (hg x h) hb
        · simp at h
          subst h
          show Φ x w' (if x = x then v else γ x)
          rw [if_pos rfl]
          exact hv
    by_cases hpure : ∃ i ∈ ps, i ∈ Region.ready .any ops listed
    · obtain ⟨i, hip, hi⟩ := hpure
      have hiv := hok.p i hip
      have hoi := Array.getElem?_eq_getElem (hok.v i hiv).1
      obtain ⟨hiL, hdL, e1, e2⟩ := htrans i hiv _ hoi hi
      obtain ⟨o, v, ho, hy, hv⟩ := pure i hip γ w hS fun d hd => hg d (hdL d hd)
      rw [hoi] at ho
      cases ho
      exact wpAny_first hoi hs (fun c a w h => hQ c a w _ v h) fuel listed _ w (fun j oj hj hne hlj hno => hok.free i hip _ hoi j oj hj hne (fun e he hb heq => by
        obtain ⟨_, o', ho', hdeps⟩ := mem_ready.1 hi
        rw [hoi] at ho'
        cases ho'
        have h1 := hdeps e he hb
        rw [heq, ← getD_flip (by rw [hsz]; exact (Array.getElem?_eq_some_iff.1 hj).1), hlj] at h1
        cases h1) hno) hi (hy.of_same e1 e2) (hstep i hiv _ hoi hi hiL v w hv (Below.refl _ _))
    have hno : ∀ i ∈ ps, i ∉ Region.ready .any ops listed := fun i hip hi => hpure ⟨i, hip, hi⟩
    refine ⟨fun hr => ?_, fun i hi => ?_⟩
    · exfalso
      apply hfull
      have : ∀ n i, i ≤ n → i ∈ vs → i ∈ L := by
        intro n
        induction n with
        | zero =>
          intro i hin hi
          false_or_by_contra
          rename_i hiL
          have hio := Array.getElem?_eq_getElem (hok.v i hi).1
          have hm : i ∈ Region.ready .any ops listed := mem_ready.2 ⟨by rw [getD_flip (by rw [hsz]; exact (hok.v i hi).1)]; have := fun h => hiL ((hl i hi).2 h); simpa using this, _, hio, fun e he hb => by
            have := ((hok.vd i hi _ hio).1 e he hb).2
            omega⟩
          rw [hr] at hm
          cases hm
        | succ n ihn =>
          intro i hin hi
          false_or_by_contra
          rename_i hiL
          have hio := Array.getElem?_eq_getElem (hok.v i hi).1
          have hm : i ∈ Region.ready .any ops listed := mem_ready.2 ⟨by rw [getD_flip (by rw [hsz]; exact (hok.v i hi).1)]; have := fun h => hiL ((hl i hi).2 h); simpa using this, _, hio, fun e he hb => by
            obtain ⟨h1, h2⟩ := (hok.vd i hi _ hio).1 e he hb
            exact (hl e.on h1).1 (ihn e.on (by omega) h1)⟩
          rw [hr] at hm
          cases hm
      exact fun i hi => this i i (Nat.le_refl _) hi
    · obtain ⟨h0, oi, hoi, hdeps⟩ := mem_ready.1 hi
      have hin : i < ops.size := (Array.getElem?_eq_some_iff.1 hoi).1
      rcases hok.all i hin with hiv | hib
      · obtain ⟨hiL, hdL, e1, e2⟩ := htrans i hiv oi hoi hi
        obtain ⟨o, ho, hop⟩ := need i hiv γ w hS fun d hd => hg d (hdL d hd)
        rw [hoi] at ho
        cases ho
        exact (hop.of_same e1 e2).wpOp hoi fun v w' hv hb => hstep i hiv oi hoi hi hiL v w' hv hb
      · exfalso
        apply hfull
        intro x hx
        obtain ⟨k, hk⟩ := List.getElem?_of_mem hib
        have hdl : ∀ y, direct oi y = true → listed.getD y false = true := fun y hy => by
          obtain ⟨e, he, hb, heq⟩ := direct_spec.1 hy
          have := hdeps e he hb
          rw [heq] at this
          exact this
        rcases (hok.bd k i hk oi hoi).2.2 x hx with hd | ⟨hxp, hd⟩
        · exact (hl x hx).2 (hdl x hd)
        · false_or_by_contra
          rename_i hxL
          have hxo := Array.getElem?_eq_getElem (hok.v x hx).1
          refine hno x hxp (mem_ready.2 ⟨by rw [getD_flip (by rw [hsz]; exact (hok.v x hx).1)]; have := fun h => hxL ((hl x hx).2 h); simpa using this, _, hxo, fun e he hb => ?_⟩)
          exact hdl _ (hd _ ((mem_depsOf hxo).2 ⟨((hok.vd x hx _ hxo).1 e he hb).1, e, he, hb, rfl⟩))

/-- What is to be shown of the pure operations. -/
def PureE (P : Program) (ops : Array Oper) (S : World → Prop) (Φ : Nat → World → Value → Prop) (a0 : Act) : List Nat → List (List (Nat × Option Tmp)) → Prop
  | i :: r, d :: ds => (∀ (γ : Nat → Value) (w : World), S w → AllE Φ γ w d → ∃ o v, ops[i]? = some o ∧ Yields P ops o v (putE γ d a0) ∧ Φ i w v) ∧ PureE P ops S Φ a0 r ds
  | _, _ => True
theorem pureE_at {vs : List Nat} {Φ : Nat → World → Value → Prop} {a0 : Act} : ∀ l : List Nat, PureE P ops S Φ a0 l (l.map fun i => (depsOf ops vs i).map fun d => (d, dstOf ops d)) → ∀ i ∈ l, ∀ (γ : Nat → Value) (w : World), S w → (∀ d ∈ depsOf ops vs i, Φ d w (γ d)) → ∃ o v, ops[i]? = some o ∧ Yields P ops o v (putD ops γ (depsOf ops vs i) a0) ∧ Φ i w v
  | [], _, _, hi => by cases hi
  | j :: r, h, i, hi => by
    rcases List.mem_cons.1 hi with rfl | hi
    · intro γ w hS hd
      obtain ⟨o, v, ho, hp, hv⟩ := h.1 γ w hS (allE_eq _ hd)
      rw [putE_eq] at hp
      exact ⟨o, v, ho, hp, hv⟩
    · exact pureE_at r h.2 i hi

/-- THE LAW. -/
theorem wp_region_predQ {id : Nat} {a : Act} {w : World} (S : World → Prop) (vs ps bs : List Nat) (Φ : Nat → World → Value → Prop) (dl pl : List (List (Nat × Option Tmp))) (al : List (Nat × Option Tmp)) (hm : P.follows .mixedOrders = true) (hs : Region.noSelect ops = true) (hok : partsOkQ ops vs ps bs = true) (hdst : dstsOk ops vs = true)
    (hdl : (vs.map fun i => (depsOf ops vs i).map fun d => (d, dstOf ops d)) = dl) (hpl : (ps.map fun i => (depsOf ops vs i).map fun d => (d, dstOf ops d)) = pl) (hal : (vs.map fun d => (d, dstOf ops d)) = al) (hbnd : bs.Nodup) (hlen : vs.length + bs.length ≤ ops.size) (hmono : Stays S)
    (hQ : ∀ c a w d v, Q (.panic c) (Act.put a d v) w → Q (.panic c) a w) (hΦ : ∀ i w w' v, Φ i w v → Below w.heap.size w w' → Φ i w' v) (hS : S w.drew)
    (need : NeedE P ops S Φ a vs dl) (pure : PureE P ops S Φ a ps pl)
    (hD : ∀ (γ : Nat → Value) (w : World), S w → AllE Φ γ w al → wpOps P ops Q bs (putE γ al a) w) : (Code.region id ops true).wp P Q a w := by
  have hl0 : ∀ i, (Array.replicate ops.size false).getD i false = false := fun i => by
    by_cases hi : i < ops.size <;> simp [hi]
  subst hdl hpl hal
  refine wp_region_any hm ?_
  exact wpAny_predQ (Q := Q) hmono (Region.noSelect_spec hs) (partsQ_of hok) hdst hbnd hQ hΦ (fun i hi γ wx hSx h => needE_at vs need i hi γ wx hSx h) (fun i hi γ wx hSx h => pureE_at ps pure i hi γ wx hSx h) (fun γ wx hSx h => by rw [← putE_eq]; exact hD γ wx hSx (allE_eq _ h))
    ops.size (Array.replicate ops.size false) (fun _ => undef) [] w.drew (by simp) (by simp) (fun i hi => by cases hi) (fun i _ => by simp [hl0]) (fun i _ => hl0 i)
    (fun i o e hi => by rw [hl0] at hi; cases hi) (Nat.le_trans (Nat.add_le_add_right (List.length_filter_le _ _) _) hlen) hS (fun i hi => by cases hi)
end
end Go.Proofs.YtibbinenhmiclaaDoor
