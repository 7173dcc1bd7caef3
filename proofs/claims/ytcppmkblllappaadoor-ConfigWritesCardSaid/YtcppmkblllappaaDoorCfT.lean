/-
  Where a line's first blank stands; which name a word is.
-/
import Derived.Test.YtcppmkblllappaaDoorCfS
import Derived.Lib.Index
namespace Go.Proofs.YtcppmkblllappaaDoor

/-- j is where the first blank stands. -/
structure FirstAt (l : List UInt8) (j : Nat) : Prop where
  lt : j < l.length
  at_ : l[j]? = some 32
  no : ∀ i, i < j → l[i]? ≠ some 32
theorem first_or : ∀ l : List UInt8, (∀ c ∈ l, c ≠ 32) ∨ ∃ j, FirstAt l j
  | [] => .inl (by simp)
  | c :: r => by
    by_cases h : c = 32
    · exact .inr ⟨0, ⟨by simp, by simp [h], fun i hi => absurd hi (Nat.not_lt_zero _)⟩⟩
    · rcases first_or r with hr | ⟨j, hj⟩
      · exact .inl fun x hx => by
          rcases List.mem_cons.1 hx with rfl | hx
          · exact h
          · exact hr x hx
      · refine .inr ⟨j + 1, ⟨by have := hj.lt; simp; omega, by simpa using hj.at_, fun i hi => ?_⟩⟩
        cases i with
        | zero => simpa using h
        | succ i => simpa using hj.no i (by omega)
theorem occ32 (l : List UInt8) (i : Nat) : Lib.occAt l [32] i = true ↔ l[i]? = some 32 := by
  unfold Lib.occAt
  cases hd : l.drop i with
  | nil =>
    have : l.length ≤ i := List.drop_eq_nil_iff.1 hd
    simp [List.getElem?_eq_none this]
  | cons c r =>
    have h : l[i]? = some c := by
      have := congrArg List.head? hd
      simpa [List.head?_drop] using this
    rw [h]
    simp [List.isPrefixOf]
    exact eq_comm
theorem index32_none {l : List UInt8} (h : ∀ c ∈ l, c ≠ 32) : Lib.index l [32] = -1 :=
  Lib.index_none fun j _ => Bool.eq_false_iff.2 fun ho => h 32 (List.mem_of_getElem? ((occ32 l j).1 ho)) rfl
theorem index32_at {l : List UInt8} {j : Nat} (h : FirstAt l j) : Lib.index l [32] = j :=
  Lib.index_first (Nat.le_of_lt h.lt) ((occ32 l j).2 h.at_) fun i hi => Bool.eq_false_iff.2 fun ho => h.no i hi ((occ32 l i).1 ho)
theorem cut_none {s : ByteArray} (h : ∀ c ∈ s.data.toList, c ≠ 32) : cutN s = s ∧ cutV s = ⟨#[]⟩ := by
  have hi := index32_none h
  unfold cutN cutV Lib.cut
  rw [hi, if_neg (by omega)]
  exact ⟨byte_ext rfl, rfl⟩
theorem cut_at {s : ByteArray} {j : Nat} (h : FirstAt s.data.toList j) : cutN s = s.extract 0 j ∧ cutV s = s.extract (j + 1) s.size := by
  have hi := index32_at h
  have hz : s.size = s.data.toList.length := by show s.data.size = _; simp
  unfold cutN cutV Lib.cut
  rw [hi, if_pos (by omega)]
  refine ⟨byte_ext ?_, byte_ext ?_⟩
  · rw [piece_list]; simp
  · rw [piece_list, hz]
    simp only [Int.toNat_natCast, List.length_cons, List.length_nil]
    rw [List.take_of_length_le (by rw [List.length_drop]; omega)]
theorem nm_inj : ∀ i j, i < 15 → j < 15 → ((nmA i).toList == (nmA j).toList) = decide (i = j) := by
  have : ∀ i j : Fin 15, ((nmA i).toList == (nmA j).toList) = decide ((i : Nat) = j) := by decide +kernel
  exact fun i j hi hj => this ⟨i, hi⟩ ⟨j, hj⟩
theorem ixR_none (x : ByteArray) : ∀ n i, i + n = 15 → ixR x n i = 15 → ∀ j, i ≤ j → j < 15 → ((nmA j).toList == x.toList) = false := by
  intro n
  induction n with
  | zero => intro i h _ j h1 h2; omega
  | succ n ih =>
    intro i h hc j h1 h2
    unfold ixR at hc
    split at hc
    · omega
    · rename_i hn
      by_cases e : j = i
      · subst e; simpa using hn
      · exact ih (i + 1) (by omega) hc j (by omega) h2
/-- Each name against a word: alike just at the word's own number. -/
theorem nm_test (x : ByteArray) {j : Nat} (h : j < 15) : ((nmA j).toList == x.toList) = decide (j = ixN x) := by
  by_cases hx : ixN x < 15
  · have := nm_inj j (ixN x) h hx
    rwa [ixN_name hx] at this
  · have h15 : ixN x = 15 := by have := (ixR_spec x 15 0 rfl).1; unfold ixN at hx ⊢; omega
    rw [ixR_none x 15 0 rfl h15 j (Nat.zero_le _) h]
    exact (decide_eq_false (by omega)).symm
end Go.Proofs.YtcppmkblllappaaDoor
