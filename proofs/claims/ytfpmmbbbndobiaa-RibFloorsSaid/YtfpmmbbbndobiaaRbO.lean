/-
  What a law of breaking and coming back has of the table: the mathematics.
-/
import Derived.Test.YtfpmmbbbndobiaaRbM
namespace Go.Proofs.Ytfpmmbbbndobiaa

theorem dropI_off (T : TB) (u : Int) (q : Nat → OW → Bool) (d : Nat) (j : Nat) : ∀ i, (dropI T u q d i).off j = if d * 8 ≤ j ∧ j < d * 8 + i ∧ goes T q d (j - d * 8) = true then gone u (T.off j).kn.k else T.off j
  | 0 => by rw [if_neg (by omega)]; rfl
  | i + 1 => by
    have ih := dropI_off T u q d j i
    unfold dropI
    by_cases hj : j = d * 8 + i
    · have e : j - d * 8 = i := by omega
      cases hg : goes T q d i with
      | true => rw [if_pos rfl, if_pos ⟨by omega, by omega, by rw [e]; exact hg⟩]; unfold TB.putO; simp only [if_pos hj]; rw [hj]
      | false => rw [if_neg (by simp), ih, if_neg (by omega), if_neg (by rw [e, hg]; simp)]
    · have key : (dropI T u q d i).off j = if d * 8 ≤ j ∧ j < d * 8 + (i + 1) ∧ goes T q d (j - d * 8) = true then gone u (T.off j).kn.k else T.off j := by
        rw [ih]
        by_cases hc : d * 8 ≤ j ∧ j < d * 8 + i ∧ goes T q d (j - d * 8) = true
        · rw [if_pos hc, if_pos ⟨hc.1, by omega, hc.2.2⟩]
        · rw [if_neg hc, if_neg (fun h => hc ⟨h.1, by omega, h.2.2⟩)]
      split
      · unfold TB.putO; simp only [if_neg hj]; exact key
      · exact key
theorem goes_off {T T' : TB} (q : Nat → OW → Bool) {d i : Nat} (h : T.off (d * 8 + i) = T'.off (d * 8 + i)) : goes T q d i = goes T' q d i := by unfold goes; rw [h]
theorem dropD_off (T : TB) (u : Int) (q : Nat → OW → Bool) (j : Nat) : ∀ n, (dropD T u q n).1.off j = if j < n * 8 ∧ goes T q (j / 8) (j % 8) = true then gone u (T.off j).kn.k else T.off j
  | 0 => by rw [if_neg (by omega)]; rfl
  | n + 1 => by
    have ih := dropD_off T u q j n
    show (dropI (dropD T u q n).1 u q n 8).off j = _
    rw [dropI_off]
    by_cases hj : n * 8 ≤ j ∧ j < n * 8 + 8
    · have e1 : j / 8 = n := by omega
      have e2 : j - n * 8 = j % 8 := by omega
      rw [if_neg (show ¬ (j < n * 8 ∧ _) by omega)] at ih
      have e3 : goes (dropD T u q n).1 q n (j % 8) = goes T q n (j % 8) := goes_off q (by rw [show n * 8 + j % 8 = j by omega]; exact ih)
      rw [ih, e2, e1, e3]
      by_cases hg : goes T q n (j % 8) = true
      · rw [if_pos ⟨hj.1, hj.2, hg⟩, if_pos ⟨by omega, hg⟩]
      · rw [if_neg (fun h => hg h.2.2), if_neg (fun h => hg h.2)]
    · rw [if_neg (fun h => hj ⟨h.1, h.2.1⟩), ih]
      by_cases hc : j < n * 8 ∧ goes T q (j / 8) (j % 8) = true
      · rw [if_pos hc, if_pos ⟨by omega, hc.2⟩]
      · rw [if_neg hc, if_neg (fun h => hc ⟨by omega, h.2⟩)]
/-- A table where one neighbour's offer has been taken away, and none stands. -/
structure Down (h : Int) (u : Int) (k : K3) (T : TB) : Prop where
  self : T.self = 0
  hold : T.hold = h
  nos : ∀ j, (T.off j).stands = false
  at17 : T.off 17 = gone u k
  rest : ∀ j, j ≠ 17 → T.off j = ow0
theorem Down.goes {h u : Int} {k : K3} {T : TB} (H : Down h u k T) (q : Nat → OW → Bool) (d i : Nat) : Go.Proofs.Ytfpmmbbbndobiaa.goes T q d i = false := by
  unfold Go.Proofs.Ytfpmmbbbndobiaa.goes
  rw [H.nos]
  rfl
theorem Down.lk {h u : Int} {k : K3} {T : TB} (H : Down h u k T) (d : Int) : lkB T d = false := by
  unfold lkB lkO
  rw [H.nos]
  simp
theorem Down.dropOff {h u : Int} {k : K3} {T : TB} (H : Down h u k T) (v : Int) (q : Nat → OW → Bool) (n j : Nat) : (dropD T v q n).1.off j = T.off j := by
  rw [dropD_off, if_neg (fun hh => by rw [H.goes] at hh; exact absurd hh.2 (by simp))]
theorem Down.drop {h u : Int} {k : K3} {T : TB} (H : Down h u k T) (v : Int) (q : Nat → OW → Bool) (n : Nat) : Down h u k (dropD T v q n).1 where
  self := (dropD_hold T v q n).2.1.trans H.self
  hold := (dropD_hold T v q n).1.trans H.hold
  nos j := by rw [H.dropOff]; exact H.nos j
  at17 := by rw [H.dropOff]; exact H.at17
  rest j hj := by rw [H.dropOff]; exact H.rest j hj
theorem lsI_none {T : TB} {q : Nat → OW → Bool} {d : Nat} (hg : ∀ i, goes T q d i = false) (l : List Nat) : ∀ i, lsI T q d l i = l
  | 0 => rfl
  | i + 1 => by
    unfold lsI
    rw [if_neg (by rw [hg]; simp)]
    exact lsI_none hg l i
theorem Down.none {h u : Int} {k : K3} {T : TB} (H : Down h u k T) (v : Int) (q : Nat → OW → Bool) : ∀ n, (dropD T v q n).2 = []
  | 0 => rfl
  | n + 1 => by
    show lsI (dropD T v q n).1 q n (dropD T v q n).2 8 = []
    rw [lsI_none (fun i => (H.drop v q n).goes q n i), H.none v q n]
/-- The table behind the first offer. -/
def t1 (h l : Int) (k : K3) : TB := ((tb0 0 h l).putO 17 (nwO 0 (kn0 2 k))).putW 2 1
theorem ofOk_of {T : TB} {now f : Int} {k : K3} (hs : T.self = 0) (ht : tmB now = true) : ofOk T now f (kn0 2 k) = (decide (1 ≤ f ∧ f < 8) && krB k) := by
  unfold ofOk
  rw [hs, ht]
  simp only [kn0, ndB, Bool.and_true]
  cases krB k
  · simp
  · by_cases h : 1 ≤ f ∧ f < 8
    · have h1 : (0 ≤ f ∧ f < 8) ∧ f ≠ 0 := by omega
      simp [h, h1]
    · by_cases h2 : 0 ≤ f ∧ f < 8
      · have : f = 0 := by omega
        subst this
        simp
      · simp [h, h2]
theorem of_first (h l : Int) (k : K3) (hk : krB k = true) : ofV (tb0 0 h l) 0 1 (kn0 2 k) = (5, 0, t1 h l k) := by
  have hv : ofOk (tb0 0 h l) 0 1 (kn0 2 k) = true := by rw [ofOk_of rfl (by decide), hk]; rfl
  unfold ofV
  rw [if_neg (by simp [hv])]
  show _ = _
  kernel_rfl
theorem drop_len1 (h l : Int) (k : K3) (u : Int) : (dropD (t1 h l k) u (isN 1) 8).2.length = 1 := by kernel_rfl
theorem t1_off17 (h l : Int) (k : K3) : (t1 h l k).off 17 = nwO 0 (kn0 2 k) := rfl
theorem t1_off {h l : Int} {k : K3} {j : Nat} (hj : j ≠ 17) : (t1 h l k).off j = ow0 := by
  unfold t1 TB.putW TB.putO
  simp only [if_neg hj]
  rfl
theorem t1_down (h l : Int) (k : K3) (u : Int) : Down h u k (dropD (t1 h l k) u (isN 1) 8).1 := by
  have h17 : (dropD (t1 h l k) u (isN 1) 8).1.off 17 = gone u k := by
    rw [dropD_off, if_pos ⟨by omega, by kernel_rfl⟩, t1_off17]
    rfl
  have hr : ∀ j, j ≠ 17 → (dropD (t1 h l k) u (isN 1) 8).1.off j = ow0 := fun j hj => by
    rw [dropD_off, if_neg, t1_off hj]
    rintro ⟨_, hg⟩
    unfold goes at hg
    rw [show j / 8 * 8 + j % 8 = j by omega, t1_off hj] at hg
    cases hg
  refine ⟨(dropD_hold _ _ _ _).2.1, (dropD_hold _ _ _ _).1, fun j => ?_, h17, hr⟩
  by_cases hj : j = 17
  · rw [hj, h17]; rfl
  · rw [hr j hj]; rfl
theorem t1_ways (h l : Int) (k : K3) (hk : krB k = true) : (t1 h l k).Ways := by
  have := (ofV_ways (tb0_ways 0 h l) 0 1 (kn0 2 k)).1
  rw [of_first h l k hk] at this
  exact this
theorem turnUp_one (T : TB) {d g : Nat} (hg : g < 8) (ho : (T.off (d * 8 + g)).stands = true) (hn : ∀ i, i < 8 → i ≠ g → (T.off (d * 8 + i)).stands = false) (hw : (T.way d).toNat < 8) : turnUp T d 8 = g := by
  have lo : ∀ n, n ≤ g → turnUp T d n = (T.way d).toNat := by
    intro n
    induction n with
    | zero => intro _; rfl
    | succ n ih =>
      intro h
      unfold turnUp
      rw [if_neg (by unfold beB; rw [hn n (by omega) (by omega)]; simp)]
      exact ih (by omega)
  have mid : turnUp T d (g + 1) = g := by
    unfold turnUp
    rw [lo g (Nat.le_refl g)]
    by_cases e : (T.way d).toNat = g
    · rw [e]; split <;> rfl
    · rw [if_pos (by unfold beB; rw [ho, hn _ hw e]; rfl)]
  have hi : ∀ n, g + 1 ≤ n → n ≤ 8 → turnUp T d n = g := by
    intro n
    induction n with
    | zero => intro h; omega
    | succ n ih =>
      intro h1 h2
      by_cases e : n = g
      · rw [e]; exact mid
      · unfold turnUp
        rw [if_neg (by unfold beB; rw [hn n (by omega) e]; simp)]
        exact ih (by omega) (by omega)
  exact hi 8 (by omega) (Nat.le_refl 8)
/-- The offer behind it: three ways. -/
theorem Down.of_bad {h u : Int} {k : K3} {T : TB} (H : Down h u k T) (now f : Int) (a : K3) (ht : tmB now = true) (hf : ¬ ((1 ≤ f ∧ f < 8) ∧ krB a = true)) : ofV T now f (kn0 2 a) = (0, 1, T) := by
  unfold ofV
  rw [if_pos]
  rw [ofOk_of H.self ht]
  by_cases h1 : 1 ≤ f ∧ f < 8
  · cases hk : krB a
    · simp
    · exact absurd ⟨h1, hk⟩ hf
  · simp [h1]
theorem Down.of_hold {h u : Int} {k : K3} {T : TB} (H : Down h u k T) (now : Int) (a : K3) (ht : tmB now = true) (hk : krB a = true) (hn : nwB a k = false) (hu : now < u) : ofV T now 1 (kn0 2 a) = (0, 28, T) := by
  have hv : ofOk T now 1 (kn0 2 a) = true := by rw [ofOk_of H.self ht, hk]; rfl
  unfold ofV
  rw [if_neg (by simp [hv]), show (kn0 2 a).d.toNat * 8 + (1 : Int).toNat = 17 from rfl, H.at17, if_neg (by simp [gone]), if_pos ⟨hu, hn⟩]
theorem Down.of_new {h u : Int} {k : K3} {T : TB} (H : Down h u k T) (hwy : T.Ways) (now f : Int) (a : K3) (ht : tmB now = true) (h0 : 0 ≤ now) (hf : 1 ≤ f ∧ f < 8) (hk : krB a = true) (hn : ¬ (f = 1 ∧ nwB a k = false ∧ now < u)) :
    (ofV T now f (kn0 2 a)).1 = 5 ∧ (ofV T now f (kn0 2 a)).2.1 = 0 := by
  have hv : ofOk T now f (kn0 2 a) = true := by rw [ofOk_of H.self ht, hk]; simp [hf]
  obtain ⟨g, rfl⟩ : ∃ g : Nat, f = g := ⟨f.toNat, by omega⟩
  have e : (kn0 2 a).d.toNat * 8 + (g : Int).toNat = 16 + g := by show 2 * 8 + g = _; omega
  have hs := H.nos (16 + g)
  have hh : ¬ (now < (T.off (16 + g)).until_ ∧ nwB (kn0 2 a).k (T.off (16 + g)).last = false) := by
    by_cases h1 : g = 1
    · subst h1
      rw [H.at17]
      exact fun hc => hn ⟨rfl, hc.2, hc.1⟩
    · rw [H.rest _ (by omega)]
      exact fun hc => absurd hc.1 (by show ¬ now < 0; omega)
  have htu : turnUp (T.putO (16 + g) (nwO now (kn0 2 a))) 2 8 = g := by
    refine turnUp_one _ (by omega) ?_ ?_ ?_
    · unfold TB.putO; simp only [if_pos (show 2 * 8 + g = 16 + g by omega)]; rfl
    · intro i hi hne
      unfold TB.putO
      simp only [if_neg (show ¬ 2 * 8 + i = 16 + g by omega)]
      exact H.nos _
    · have := hwy 2 (by omega)
      show (T.way 2).toNat < 8
      omega
  unfold ofV
  rw [if_neg (by simp [hv]), e, if_neg (by simp [hs]), if_neg hh, if_neg (by simp [hs])]
  show (if turnUp (T.putO (16 + g) (nwO now (kn0 2 a))) 2 8 ≠ g then 1 else turnedV (lkO T 2) a) = 5 ∧ _
  rw [htu, if_neg (by simp)]
  refine ⟨?_, rfl⟩
  unfold turnedV lkO
  rw [H.nos]
  rfl
end Go.Proofs.Ytfpmmbbbndobiaa
