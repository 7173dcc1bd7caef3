/-
  The text of rules, byte by byte, and what is read back from it.
-/
import Derived.Test.YtcppmkblllappaaDoorCfT
import Derived.Test.YtcppmkblllappaaDoorCfQ
import Derived.Lib.ItoaMem
import Derived.Lib.ItoaLen
namespace Go.Proofs.YtcppmkblllappaaDoor

/-- The bytes of a line: a name, a blank, a number. -/
def lnL (f : Nat → Int) (i : Nat) : List UInt8 := (nmA i).data.toList ++ 32 :: Lib.itoa (f i)
/-- The first n lines behind i, each with its line feed. -/
def txL (f : Nat → Int) : Nat → Nat → List UInt8
  | 0, _ => []
  | n + 1, i => lnL f i ++ 10 :: txL f n (i + 1)
def textV (f : Nat → Int) : ByteArray := ⟨(txL f 15 0).toArray⟩
theorem nm_bytes : ∀ i, i < 15 → ∀ c ∈ (nmA i).data.toList, c ≠ 10 ∧ c ≠ 32 ∧ c ≠ 35 := by
  have : ∀ i : Fin 15, ∀ c ∈ (nmA i).data.toList, c ≠ 10 ∧ c ≠ 32 ∧ c ≠ 35 := by decide +kernel
  exact fun i hi => this ⟨i, hi⟩
theorem nm_len : ∀ i, i < 15 → (nmA i).data.toList.length ≤ 11 ∧ 1 ≤ (nmA i).data.toList.length := by
  have : ∀ i : Fin 15, (nmA i).data.toList.length ≤ 11 ∧ 1 ≤ (nmA i).data.toList.length := by decide +kernel
  exact fun i hi => this ⟨i, hi⟩
theorem dgs_all {l : List UInt8} (h : dgs l = true) : ∀ c ∈ l, 48 ≤ c.toNat ∧ c.toNat ≤ 57 := fun c hc => by
  unfold dgs at h
  exact of_decide_eq_true (List.all_eq_true.1 h c hc)
theorem itoa_bytes (n : Int) : ∀ c ∈ Lib.itoa n, c ≠ 10 := by
  have hd : ∀ u, ∀ c ∈ Lib.decDigits u, c ≠ 10 := fun u c hc e => by
    have := dgs_all (dec_can u).1.dg c hc
    subst e
    exact absurd this.1 (by decide)
  intro c hc
  unfold Lib.itoa at hc
  split at hc
  · rcases List.mem_cons.1 hc with rfl | hc
    · decide
    · exact hd _ c hc
  · exact hd _ c hc
theorem ln_no (f : Nat → Int) {i : Nat} (hi : i < 15) : ∀ c ∈ lnL f i, c ≠ 10 := by
  intro c hc
  unfold lnL at hc
  rcases List.mem_append.1 hc with hc | hc
  · exact (nm_bytes i hi c hc).1
  · rcases List.mem_cons.1 hc with rfl | hc
    · decide
    · exact itoa_bytes _ c hc
theorem spl_tx (f : Nat → Int) : ∀ n i, i + n ≤ 15 → spl (txL f n i) = ((List.range n).map fun k => lnL f (i + k)) ++ [[]] := by
  intro n
  induction n with
  | zero => intro i _; rfl
  | succ n ih =>
    intro i h
    unfold txL
    rw [spl_nl _ _ (ln_no f (by omega)), ih (i + 1) (by omega), List.range_succ_eq_map]
    simp only [List.map_cons, List.map_map, List.cons_append, Nat.add_zero]
    congr 2
    apply List.map_congr_left
    intro k _
    show lnL f (i + 1 + k) = lnL f (i + (k + 1))
    congr 1
    omega
/-- A line as a text. -/
def lnA (f : Nat → Int) (i : Nat) : ByteArray := ⟨(lnL f i).toArray⟩
theorem lines_text (f : Nat → Int) : lines (textV f) = ((List.range 15).map (lnA f)) ++ [⟨#[]⟩] := by
  have h : (textV f).data.toList = txL f 15 0 := rfl
  rw [lines_spl, h, spl_tx f 15 0 (Nat.le_refl _), List.map_append, List.map_map]
  refine congrArg (· ++ [(⟨#[]⟩ : ByteArray)]) (List.map_congr_left fun k _ => ?_)
  show (⟨(lnL f (0 + k)).toArray⟩ : ByteArray) = lnA f k
  rw [Nat.zero_add]
  rfl
theorem ln_first (f : Nat → Int) {i : Nat} (hi : i < 15) : FirstAt (lnA f i).data.toList (nmA i).data.toList.length := by
  have h : (lnA f i).data.toList = (nmA i).data.toList ++ 32 :: Lib.itoa (f i) := rfl
  rw [h]
  refine ⟨by simp, by simp, fun j hj e => ?_⟩
  rw [List.getElem?_append_left hj] at e
  exact (nm_bytes i hi 32 (List.mem_of_getElem? e)).2.1 rfl
theorem ln_cut (f : Nat → Int) {i : Nat} (hi : i < 15) : cutN (lnA f i) = nmA i ∧ cutV (lnA f i) = ⟨(Lib.itoa (f i)).toArray⟩ := by
  have hx := index32_at (ln_first f hi)
  have h : (lnA f i).data.toList = (nmA i).data.toList ++ 32 :: Lib.itoa (f i) := rfl
  unfold cutN cutV Lib.cut
  rw [hx, if_pos (by omega), h]
  refine ⟨byte_ext ?_, byte_ext ?_⟩
  · simp
  · rw [List.drop_append]
    simp
theorem ln_skip (f : Nat → Int) {i : Nat} (hi : i < 15) : skipB (lnA f i) = false := by
  unfold skipB
  have h : (lnA f i).data.toList = (nmA i).data.toList ++ 32 :: Lib.itoa (f i) := rfl
  rw [h]
  cases hn : (nmA i).data.toList with
  | nil => have := (nm_len i hi).2; rw [hn] at this; simp at this
  | cons c r =>
    have := (nm_bytes i hi c (by rw [hn]; simp)).2.2
    simpa using this
theorem num_itoa (n : Int) (h : 0 ≤ n) (h2 : n ≤ 9223372036854775807) : numV ⟨(Lib.itoa n).toArray⟩ = some n := by
  obtain ⟨u, rfl⟩ : ∃ u : Nat, n = u := ⟨n.toNat, by omega⟩
  obtain ⟨d1, d2, _⟩ := dec_can u
  unfold numV
  have e : (ByteArray.mk (Lib.itoa (u : Int)).toArray).data.toList = Lib.decDigits u := by rw [Lib.itoa_nonneg]
  rw [e, atoi_can d1 (by rw [d2]; omega)]
  simp only
  rw [d2, if_pos ⟨h, Lib.itoa_nonneg u⟩]
theorem num_neg (n : Int) (h : n < 0) : numV ⟨(Lib.itoa n).toArray⟩ = none := by
  rw [numV_eq]
  have e : (ByteArray.mk (Lib.itoa n).toArray).data.toList = 45 :: Lib.decDigits n.natAbs := by
    show (Lib.itoa n).toArray.toList = _
    unfold Lib.itoa
    rw [if_pos h]
  rw [e]
  unfold numR
  split
  · rfl
  · rw [if_neg]
    intro hd
    exact absurd ((dgs_cons _ _).1 hd).1.1 (by decide)
theorem ix_nm {i : Nat} (hi : i < 15) : ixN (nmA i) = i := by
  have h := nm_test (nmA i) hi
  have h2 : ((nmA i).toList == (nmA i).toList) = true := by simp
  rw [h2] at h
  exact (of_decide_eq_true h.symm).symm
/-- What stands behind i lines: the numbers, and the lines where they stand. -/
def bkF (f : Nat → Int) (i : Nat) : Nat → Int := fun j => if j < i then f j else dF j
def bkS (i : Nat) : Nat → Int := fun j => if j < i then ((j + 1 : Nat) : Int) else 0
theorem bkF_step (f : Nat → Int) (i : Nat) : upd (bkF f i) i (f i) = bkF f (i + 1) := by
  funext j
  unfold upd bkF
  by_cases e : j = i
  · subst e; rw [if_pos rfl, if_pos (Nat.lt_succ_self _)]
  · rw [if_neg e]
    by_cases h : j < i
    · rw [if_pos h, if_pos (by omega)]
    · rw [if_neg h, if_neg (by omega)]
theorem bkS_step (i : Nat) : upd (bkS i) i (i + 1 : Nat) = bkS (i + 1) := by
  funext j
  unfold upd bkS
  by_cases e : j = i
  · subst e; rw [if_pos rfl, if_pos (Nat.lt_succ_self _)]
  · rw [if_neg e]
    by_cases h : j < i
    · rw [if_pos h, if_pos (by omega)]
    · rw [if_neg h, if_neg (by omega)]
theorem step_ok (f : Nat → Int) (hf : I64s f) {i : Nat} (hi : i < 15) (h : 0 ≤ f i) : stepP i (lnA f i) ⟨bkF f i, bkS i⟩ = (none, ⟨bkF f (i + 1), bkS (i + 1)⟩) := by
  unfold stepP
  rw [if_neg (by rw [ln_skip f hi]; simp), (ln_cut f hi).1, (ln_cut f hi).2, num_itoa _ h (hf i).2]
  simp only
  rw [if_neg, if_pos (by rw [ix_nm hi]; exact hi), ix_nm hi, bkF_step, bkS_step]
  unfold stN
  rw [if_pos (by rw [ix_nm hi]; exact hi), ix_nm hi]
  unfold bkS
  rw [if_neg (Nat.lt_irrefl _)]
  exact Int.lt_irrefl 0
theorem step_bad (f : Nat → Int) {i : Nat} (hi : i < 15) (h : f i < 0) (p : PS) : stepP i (lnA f i) p = (some (nmA i, 10), p) := by
  unfold stepP
  rw [if_neg (by rw [ln_skip f hi]; simp), (ln_cut f hi).1, (ln_cut f hi).2, num_neg _ h]
theorem run_ok (f : Nat → Int) (hf : I64s f) (hp : ∀ j, j < 15 → 0 ≤ f j) : ∀ n i, i + n = 15 → runP (((List.range n).map fun k => lnA f (i + k)) ++ [⟨#[]⟩]) i ⟨bkF f i, bkS i⟩ = (none, ⟨bkF f 15, bkS 15⟩) := by
  intro n
  induction n with
  | zero =>
    intro i h
    obtain rfl : i = 15 := by omega
    rfl
  | succ n ih =>
    intro i h
    rw [List.range_succ_eq_map]
    simp only [List.map_cons, List.map_map, List.cons_append, Nat.add_zero]
    rw [runP, step_ok f hf (by omega) (hp i (by omega))]
    refine Eq.trans ?_ (ih (i + 1) (by omega))
    refine congrArg (fun l => runP (l ++ [⟨#[]⟩]) (i + 1) ⟨bkF f (i + 1), bkS (i + 1)⟩) (List.map_congr_left fun k _ => ?_)
    show lnA f (i + (k + 1)) = lnA f (i + 1 + k)
    congr 1
    omega
theorem run_bad (f : Nat → Int) (hf : I64s f) : ∀ n i, i + n = 15 → (∃ j, i ≤ j ∧ j < 15 ∧ f j < 0) → ∃ m x q, runP (((List.range n).map fun k => lnA f (i + k)) ++ [⟨#[]⟩]) i ⟨bkF f i, bkS i⟩ = (some (m, x, 10), q) := by
  intro n
  induction n with
  | zero => rintro i h ⟨j, h1, h2, _⟩; omega
  | succ n ih =>
    intro i h hj
    rw [List.range_succ_eq_map]
    simp only [List.map_cons, List.map_map, List.cons_append, Nat.add_zero]
    by_cases h0 : f i < 0
    · rw [runP, step_bad f (by omega) h0]
      exact ⟨_, _, _, rfl⟩
    · rw [runP, step_ok f hf (by omega) (by omega)]
      obtain ⟨j, h1, h2, h3⟩ := hj
      obtain ⟨m, x, q, e⟩ := ih (i + 1) (by omega) ⟨j, by
        rcases Nat.lt_or_ge i j with h4 | h4
        · omega
        · have : j = i := by omega
          subst this
          exact absurd h3 h0, h2, h3⟩
      refine ⟨m, x, q, ?_⟩
      refine Eq.trans ?_ e
      refine congrArg (fun l => runP (l ++ [⟨#[]⟩]) (i + 1) ⟨bkF f (i + 1), bkS (i + 1)⟩) (List.map_congr_left fun k _ => ?_)
      show lnA f (i + (k + 1)) = lnA f (i + 1 + k)
      congr 1
      omega
theorem tx_len (f : Nat → Int) (hf : I64s f) : ∀ n i, i + n ≤ 15 → (txL f n i).length ≤ n * 34 := by
  intro n
  induction n with
  | zero => intro i _; exact Nat.le_refl _
  | succ n ih =>
    intro i h
    have h1 := ih (i + 1) (by omega)
    have h2 := (nm_len i (by omega)).1
    have h3 := Lib.itoa_length_le (f i) (hf i).1 (hf i).2
    unfold txL lnL
    simp only [List.length_append, List.length_cons]
    omega
theorem text_size (f : Nat → Int) (hf : I64s f) : (textV f).size ≤ 510 := by
  have h := tx_len f hf 15 0 (by omega)
  have e : (textV f).size = (txL f 15 0).length := by show (txL f 15 0).toArray.size = _; simp
  omega
theorem bkF_zero (f : Nat → Int) : bkF f 0 = dF := by funext j; unfold bkF; rw [if_neg (Nat.not_lt_zero _)]
theorem bkS_zero : bkS 0 = r0 := by funext j; unfold bkS; rw [if_neg (Nat.not_lt_zero _)]; rfl
theorem ckF_congr {f g : Nat → Int} (h : ∀ j, j < 15 → f j = g j) : ∀ n i, i + n = 15 → ckF f n i = ckF g n i := by
  intro n
  induction n with
  | zero => intro i _; rfl
  | succ n ih =>
    intro i hi
    unfold ckF
    rw [h i (by omega), ih (i + 1) (by omega)]
theorem ck_congr {f g : Nat → Int} (h : ∀ j, j < 15 → f j = g j) : ck f = ck g := ckF_congr h 15 0 rfl
theorem rc_congr {f g : Nat → Int} (h : ∀ j, j < 15 → f j = g j) : rc f = rc g := by
  unfold rc
  apply List.map_congr_left
  intro i hi
  rw [h i (List.mem_range.1 hi)]
theorem bk_end (f : Nat → Int) : ∀ j, j < 15 → bkF f 15 j = f j := fun j hj => by unfold bkF; rw [if_pos hj]
theorem ls_ge : ∀ i, i < 15 → 0 ≤ ls i := by
  have : ∀ i : Fin 15, 0 ≤ ls i := by decide +kernel
  exact fun i hi => this ⟨i, hi⟩
/-- Rules that may be are read back. -/
theorem back_ok {f : Nat → Int} (hf : I64s f) (h : ck f = 15) (hge : ∀ j, j < 15 → ls j ≤ f j) : rc (parseV (textV f)).1 = rc f ∧ (parseV (textV f)).2 = (0, ⟨#[]⟩, 0) := by
  have hs := text_size f hf
  have hr := run_ok f hf (fun j hj => Int.le_trans (ls_ge j hj) (hge j hj)) 15 0 rfl
  simp only [Nat.zero_add] at hr
  unfold parseV
  rw [if_neg (by omega), lines_text]
  rw [bkF_zero, bkS_zero] at hr
  rw [show (fun k => lnA f k) = lnA f from rfl] at hr
  rw [hr]
  unfold outP
  simp only
  rw [if_pos (by rw [ck_congr (bk_end f)]; exact h)]
  exact ⟨rc_congr (bk_end f), rfl⟩
/-- Others aren't. -/
theorem back_bad {f : Nat → Int} (hf : I64s f) (h : ck f ≠ 15) : (parseV (textV f)).2.2.2 ≠ 0 := by
  have hs := text_size f hf
  unfold parseV
  rw [if_neg (by omega), lines_text]
  by_cases hp : ∀ j, j < 15 → 0 ≤ f j
  · have hr := run_ok f hf hp 15 0 rfl
    simp only [Nat.zero_add] at hr
    rw [bkF_zero, bkS_zero, show (fun k => lnA f k) = lnA f from rfl] at hr
    rw [hr]
    unfold outP
    simp only
    rw [if_neg (by rw [ck_congr (bk_end f)]; exact h)]
    exact fun e => absurd (show (30 : Int) = 0 from e) (by decide)
  · have hj : ∃ j, 0 ≤ j ∧ j < 15 ∧ f j < 0 := by
      apply Classical.byContradiction
      intro hn
      exact hp fun j hj => by
        rcases Int.lt_or_le (f j) 0 with h1 | h1
        · exact absurd ⟨j, Nat.zero_le _, hj, h1⟩ hn
        · exact h1
    obtain ⟨m, x, q, e⟩ := run_bad f hf 15 0 rfl hj
    simp only [Nat.zero_add] at e
    rw [bkF_zero, bkS_zero, show (fun k => lnA f k) = lnA f from rfl] at e
    rw [e]
    exact fun e => absurd (show (10 : Int) = 0 from e) (by decide)
theorem step_err {i : Nat} {l : ByteArray} {p : PS} {x : ByteArray} {e : Int} {q : PS} (h : stepP i l p = (some (x, e), q)) : e ≠ 0 := by
  unfold stepP at h
  split at h
  · simp at h
  · split at h
    · simp at h; omega
    · split at h
      · simp at h; omega
      · split at h
        · simp at h
        · simp at h; omega
theorem run_err : ∀ (l : List ByteArray) (i : Nat) (p : PS) (m : Int) (x : ByteArray) (e : Int) (q : PS), runP l i p = (some (m, x, e), q) → e ≠ 0 := by
  intro l
  induction l with
  | nil => intro i p m x e q h; simp [runP] at h
  | cons a r ih =>
    intro i p m x e q h
    rw [runP] at h
    cases hs : stepP i a p with
    | mk o p2 =>
      rw [hs] at h
      cases o with
      | none => exact ih _ _ _ _ _ _ h
      | some y =>
        obtain ⟨y1, y2⟩ := y
        have h2 : y2 = e := by
          simp at h
          exact h.1.2.2
        exact h2 ▸ step_err hs
/-- What is read has no error just where its rules may be; else they are zero. -/
theorem parse_is (s : ByteArray) : ((parseV s).2.2.2 = 0 → ck (parseV s).1 = 15) ∧ ((parseV s).2.2.2 ≠ 0 → (parseV s).1 = r0) := by
  unfold parseV
  split
  · exact ⟨fun h => absurd h (by decide), fun _ => rfl⟩
  · cases hR : runP (lines s) 0 ⟨dF, r0⟩ with
    | mk o p =>
      cases o with
      | none =>
        unfold outP
        simp only
        split
        · rename_i hc; exact ⟨fun _ => hc, fun h => absurd rfl h⟩
        · exact ⟨fun h => absurd (show (30 : Int) = 0 from h) (by decide), fun _ => rfl⟩
      | some y =>
        obtain ⟨m, x, e⟩ := y
        have he := run_err _ _ _ _ _ _ _ hR
        exact ⟨fun h => absurd h he, fun _ => rfl⟩
/-- Numbers that are read are numbers of 64 bits. -/
theorem step_ok64 {i : Nat} {l : ByteArray} {p : PS} (h : I64s p.f) : I64s (stepP i l p).2.f := by
  unfold stepP
  split
  · exact h
  · split
    · exact h
    · rename_i v hv
      split
      · exact h
      · split
        · intro q
          show _ ≤ upd _ _ _ q ∧ upd _ _ _ q ≤ _
          unfold upd
          split
          · exact numV_ok hv
          · exact h q
        · exact h
theorem run_ok64 : ∀ (l : List ByteArray) (i : Nat) (p : PS), I64s p.f → I64s (runP l i p).2.f := by
  intro l
  induction l with
  | nil => intro i p h; exact h
  | cons a r ih =>
    intro i p h
    rw [runP]
    have h2 := step_ok64 (i := i) (l := a) h
    cases hs : stepP i a p with
    | mk o p2 =>
      rw [hs] at h2
      cases o with
      | none => exact ih _ _ h2
      | some y => exact h2
theorem parse_ok64 (s : ByteArray) : I64s (parseV s).1 := by
  have hz : I64s r0 := fun q => by unfold r0; omega
  unfold parseV
  split
  · exact hz
  · have h := run_ok64 (lines s) 0 ⟨dF, r0⟩ dF_ok
    cases hR : runP (lines s) 0 ⟨dF, r0⟩ with
    | mk o p =>
      rw [hR] at h
      cases o with
      | none =>
        unfold outP
        simp only
        split
        · exact h
        · exact hz
      | some y => exact hz
end Go.Proofs.YtcppmkblllappaaDoor
