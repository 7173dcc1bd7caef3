/-
  What the map of the taken numbers and the window's bits have to do with each other, in the law WindowOnce; and what a key of that map reads as.
-/
import Derived.Test.YtoembbdjpelogaaProg
import Derived.Test.YtoembbdjpelogaaWinP
import Derived.Maps.OwnOps
import Derived.Maps.Views
import Derived.WideKeyPair
import Derived.ChangeKeys
import Derived.DeepKeys4
namespace Go.Proofs.Ytoembbdjpelogaa
open Go.Maps

def opKey (a b : Nat) : Lit := .string (keyBytes [.int .u64 a, .int .u64 b])

theorem u64_wf {a : Nat} (h : a < 18446744073709551616) : (Lit.int .u64 a).wf = true := by
  simp [Lit.wf, IntKind.min, IntKind.max, IntKind.signed, IntKind.bits]; omega

theorem types_size : ∃ m, Try.prog.types.size = m + 1 := ⟨125, by kernel_rfl⟩

theorem opKey_of {a b : Nat} (ha : a < 18446744073709551616) (hb : b < 18446744073709551616) : keyOf Try.prog 75 (.agg #[.int .u64 a, .int .u64 b]) = some (opKey a b) := by
  have wa := u64_wf ha
  have wb := u64_wf hb
  have hkt : Try.prog.keyType 75 = true := by kernel_rfl
  have hC : Try.prog.cellsOf 75 = 2 := by kernel_rfl
  have hC2 : Try.prog.cellsOf 73 = 1 := by kernel_rfl
  obtain ⟨m, hm⟩ := types_size
  unfold keyOf
  simp only [Try.underlying75]
  rw [if_pos (by simp [hkt, Value.formed, Try.underlying75, hC]), hm]
  unfold Program.keyLits
  simp only [Try.underlying75]
  rw [if_pos ⟨by rw [hC]; rfl, by simp⟩]
  have k1 : ∀ n : Nat, n < 18446744073709551616 → Try.prog.keyLits (m + 1) 73 [.int .u64 n] = some [.int .u64 n] := fun n hn => by
    unfold Program.keyLits
    simp only [Try.underlying73]
    rw [if_pos ⟨trivial, u64_wf hn⟩]
  simp only [List.mapM_cons, List.mapM_nil, hC2, Value.cells, List.drop_zero, List.take_succ_cons, List.take_zero, List.drop_succ_cons, k1 a ha, k1 b hb, Option.pure_def, Option.bind_eq_bind, Option.bind_some, Option.map_some, List.flatten_cons, List.flatten_nil, List.append_nil]
  rfl

theorem laidOut' : laidOutB Try.prog = true := by kernel_rfl
theorem keyAt' : Try.prog.keyTypeAt 3 75 = true := by kernel_rfl
theorem rows75 : decide (75 < Try.prog.types.size) = true := by kernel_rfl

theorem law75 : Keyed Try.prog 75 := Keyed.of_law (deep_law_laid laidOut' (m := 3) (by decide) (of_decide_eq_true rows75) keyAt' (by rw [Try.underlying75]))

theorem opKey_inj {a b c d : Nat} (ha : a < 18446744073709551616) (hb : b < 18446744073709551616) (hc : c < 18446744073709551616) (hd : d < 18446744073709551616) (h : opKey a b = opKey c d) : a = c ∧ b = d := by
  have h : keyBytes [.int .u64 a, .int .u64 b] = keyBytes [.int .u64 c, .int .u64 d] := by injection h
  have := keyBytes_inj (l := [.int .u64 a, .int .u64 b]) (l' := [.int .u64 c, .int .u64 d]) ?_ ?_ ?_ h
  · simp at this; omega
  · exact ⟨rfl, rfl, trivial⟩
  · intro x hx
    simp only [List.mem_cons, List.not_mem_nil, or_false] at hx
    rcases hx with rfl | rfl
    · exact u64_wf ha
    · exact u64_wf hb
  · intro x hx
    simp only [List.mem_cons, List.not_mem_nil, or_false] at hx
    rcases hx with rfl | rfl
    · exact u64_wf hc
    · exact u64_wf hd

/-- A number of which the map of the taken ones may know: it isn't fresh. -/
def TakenP (wb top tk a b : Nat) : Prop := a < wb ∨ (a = wb ∧ b ≤ top ∧ (64 ≤ top - b ∨ tk.testBit (top - b) = true))

theorem TakenP.stale {size wb top tk a b : Nat} (hs : size ≤ 64) (h : TakenP wb top tk a b) : freshN size wb top tk a b = false := by
  unfold freshN
  rcases h with h | ⟨rfl, h1, h2⟩
  · rw [if_pos (by omega)]
  · split
    · rfl
    · rw [if_neg (by omega)]
      rcases h2 with h2 | h2
      · simp; omega
      · simp [h2]

/-- What was taken stays so, and what is taken is. -/
theorem TakenP.step {size wb top tk boot count : Nat} (hr : takeR size wb top tk boot count = 0) (hw : wb ≤ boot) :
    (∀ a b, TakenP wb top tk a b → TakenP (takeB size wb top tk boot count) (takeT size wb top tk boot count) (takeK size wb top tk boot count) a b) ∧
    TakenP (takeB size wb top tk boot count) (takeT size wb top tk boot count) (takeK size wb top tk boot count) boot count := by
  simp only [takeB, takeT, takeK, hr, if_true]
  by_cases h1 : wb < boot
  · rw [if_pos h1, if_pos h1]
    refine ⟨fun a b h => .inl ?_, .inr ⟨rfl, Nat.le_refl _, .inr (by simp)⟩⟩
    rcases h with h | ⟨rfl, _⟩ <;> omega
  · obtain rfl : boot = wb := by omega
    rw [if_neg h1, if_neg h1]
    by_cases h2 : top < count
    · rw [if_pos h2, if_pos h2]
      refine ⟨fun a b h => ?_, .inr ⟨rfl, Nat.le_refl _, .inr (by rw [bits_up]; simp)⟩⟩
      rcases h with h | ⟨rfl, h3, h4⟩
      · exact .inl h
      · refine .inr ⟨rfl, by omega, ?_⟩
        by_cases h5 : 64 ≤ count - b
        · exact .inl h5
        · refine .inr ?_
          rw [bits_up]
          rcases h4 with h4 | h4
          · omega
          · rw [show count - b - (count - top) = top - b by omega, h4]
            have e1 : decide (count - top ≤ count - b) = true := by simp; omega
            have e2 : decide (count - b < 64) = true := by simp; omega
            simp only [e1, e2, Bool.true_and, Bool.or_true]
    · rw [if_neg h2, if_neg h2]
      refine ⟨fun a b h => ?_, .inr ⟨rfl, by omega, .inr (by rw [bits_in]; simp)⟩⟩
      rcases h with h | ⟨rfl, h3, h4⟩
      · exact .inl h
      · refine .inr ⟨rfl, h3, ?_⟩
        rcases h4 with h4 | h4
        · exact .inl h4
        · exact .inr (by rw [bits_in, h4]; simp)

/-- What the map knows was taken. -/
def Knows (D : DataW Unit) (wb top tk : Nat) : Prop :=
  Maps.IsMap D ∧ ∀ a b : Nat, a < 18446744073709551616 → b < 18446744073709551616 → D.atKey (opKey a b) (.lit (.int .i64 0)) ≠ .lit (.int .i64 0) → TakenP wb top tk a b

theorem Knows.start : Knows (.map []) 0 0 0 := ⟨Maps.isMap_empty, fun _ _ _ _ h => absurd rfl h⟩

/-- Of a fresh number it knows nothing. -/
theorem Knows.fresh {D : DataW Unit} {size wb top tk boot count : Nat} (hs : size ≤ 64) (h : Knows D wb top tk) (hb : boot < 18446744073709551616) (hc : count < 18446744073709551616) (hf : freshN size wb top tk boot count = true) {c : Int}
    (hat : D.atKey (opKey boot count) (.lit (.int .i64 0)) = .lit (.int .i64 c)) : c = 0 := by
  false_or_by_contra
  rename_i hne
  have := (h.2 boot count hb hc (by rw [hat]; simp; exact hne)).stale (size := size) hs
  rw [hf] at this
  cases this

theorem Knows.step {D : DataW Unit} {size wb top tk boot count : Nat} (h : Knows D wb top tk) (hb : boot < 18446744073709551616) (hc : count < 18446744073709551616) (hr : takeR size wb top tk boot count = 0) (hw : wb ≤ boot) :
    Knows (D.put (opKey boot count) (.lit (.int .i64 1))) (takeB size wb top tk boot count) (takeT size wb top tk boot count) (takeK size wb top tk boot count) := by
  obtain ⟨s1, s2⟩ := TakenP.step hr hw
  refine ⟨h.1.put _ _, fun a b ha hb' hne => ?_⟩
  by_cases he : a = boot ∧ b = count
  · obtain ⟨rfl, rfl⟩ := he
    exact s2
  · refine s1 a b (h.2 a b ha hb' ?_)
    rw [Maps.atKey_put_other (fun e => he (opKey_inj ha hb' hb hc e))] at hne
    exact hne

theorem fresh_ne {size wb top tk boot count : Nat} (h : freshN size wb top tk boot count = true) : boot ≠ 0 ∧ count ≠ 0 ∧ wb ≤ boot := by
  unfold freshN at h
  split at h
  · cases h
  · omega
theorem take_stale {size wb top tk boot count : Nat} (h : freshN size wb top tk boot count = false) : (((takeR size wb top tk boot count : Nat) : Int) == 0) = false := by
  unfold takeR
  split
  · rfl
  · rw [if_neg (by simp [h])]; rfl
theorem take_same {size wb top tk boot count : Nat} (h : freshN size wb top tk boot count = false) : takeB size wb top tk boot count = wb ∧ takeT size wb top tk boot count = top ∧ takeK size wb top tk boot count = tk := by
  have hr : takeR size wb top tk boot count ≠ 0 := by
    have := take_stale h
    intro e
    rw [e] at this
    cases this
  simp [takeB, takeT, takeK, hr]
theorem takeT_lt {size wb top tk boot count : Nat} (h2 : top ≤ 18446744073709551615) (hc : count < 18446744073709551616) : takeT size wb top tk boot count ≤ 18446744073709551615 := by
  unfold takeT
  repeat' split
  all_goals omega
end Go.Proofs.Ytoembbdjpelogaa
