/-
  What numeral a word is, by the document: the digits' value, and no other numeral.
-/
import Derived.Test.YtcppmkblllappaaDoorCfD
import Derived.Lib.AtoiAllCases
namespace Go.Proofs.YtcppmkblllappaaDoor

/-- What digits spell behind a. -/
def vf (a : Nat) : List UInt8 → Nat
  | [] => a
  | c :: r => vf (a * 10 + (c.toNat - 48)) r
def dgs (l : List UInt8) : Bool := l.all fun c => decide (48 ≤ c.toNat ∧ c.toNat ≤ 57)
/-- The numeral of a word, by the document. -/
def numR (l : List UInt8) : Option Int :=
  if l = [] ∨ 19 < l.length ∨ (l.head? = some 48 ∧ 1 < l.length) then none
  else if dgs l = true then (if vf 0 l ≤ 9223372036854775807 then some (vf 0 l : Int) else none) else none
theorem vf_ge : ∀ (l : List UInt8) (a : Nat), a ≤ vf a l
  | [], a => Nat.le_refl a
  | c :: r, a => by
    unfold vf
    exact Nat.le_trans (by omega) (vf_ge r _)
theorem vf_append : ∀ (l : List UInt8) (a : Nat) (c : UInt8), vf a (l ++ [c]) = vf a l * 10 + (c.toNat - 48)
  | [], _, _ => rfl
  | d :: r, a, c => vf_append r (a * 10 + (d.toNat - 48)) c
theorem dgs_cons (c : UInt8) (r : List UInt8) : dgs (c :: r) = true ↔ (48 ≤ c.toNat ∧ c.toNat ≤ 57) ∧ dgs r = true := by
  unfold dgs
  simp
theorem parse_ok : ∀ (l : List UInt8) (a : Nat), dgs l = true → vf a l < 18446744073709551616 → Lib.parseUint10 a l = .ok (vf a l)
  | [], _, _, _ => rfl
  | c :: r, a, h, hv => by
    obtain ⟨hc, hr⟩ := (dgs_cons c r).1 h
    unfold vf at hv
    have hg := vf_ge r (a * 10 + (c.toNat - 48))
    unfold Lib.parseUint10 vf
    rw [if_pos hc, if_neg (by omega), if_neg (by omega)]
    exact parse_ok r _ hr hv
structure Can (l : List UInt8) : Prop where
  ne : l ≠ []
  dg : dgs l = true
  hd : l.head? = some 48 → l.length = 1
theorem ofNat48 (c : UInt8) (h : 48 ≤ c.toNat) : UInt8.ofNat (48 + (c.toNat - 48)) = c := by
  rw [show 48 + (c.toNat - 48) = c.toNat by omega]
  exact UInt8.ofNat_toNat
theorem dgs_append (l m : List UInt8) : dgs (l ++ m) = true ↔ dgs l = true ∧ dgs m = true := by
  unfold dgs
  simp
theorem can_dec : ∀ (n : Nat) (l : List UInt8), l.length = n → Can l → Lib.decDigits (vf 0 l) = l := by
  intro n
  induction n with
  | zero => intro l hl h; exact absurd (List.length_eq_zero_iff.1 hl) h.ne
  | succ n ih =>
    intro l hl h
    obtain ⟨m, c, rfl⟩ : ∃ m c, l = m ++ [c] := ⟨l.dropLast, l.getLast h.ne, (List.dropLast_concat_getLast h.ne).symm⟩
    obtain ⟨hm, hc⟩ := (dgs_append m [c]).1 h.dg
    have hc' := ((dgs_cons c []).1 hc).1
    rw [vf_append]
    by_cases e : m = []
    · subst e
      show Lib.decDigits (0 * 10 + (c.toNat - 48)) = [c]
      rw [show 0 * 10 + (c.toNat - 48) = c.toNat - 48 by omega, Lib.decDigits_one (by omega), ofNat48 c hc'.1]
    · obtain ⟨d, r, rfl⟩ := List.exists_cons_of_ne_nil e
      have hlen : (d :: r).length = n := by simpa using hl
      have hd48 : d ≠ 48 := fun h48 => by
        have := h.hd (by simp [h48])
        simp at this
      have hcm : Can (d :: r) := ⟨e, hm, fun h48 => absurd (by simpa using h48) hd48⟩
      have hd' := ((dgs_cons d r).1 hm).1
      have hd3 : d.toNat ≠ 48 := fun h48 => hd48 (UInt8.toNat_inj.1 h48)
      have hpos : 1 ≤ vf 0 (d :: r) := by
        unfold vf
        exact Nat.le_trans (by omega) (vf_ge r _)
      rw [Lib.decDigits, dif_neg (by omega), show (vf 0 (d :: r) * 10 + (c.toNat - 48)) / 10 = vf 0 (d :: r) by omega, show (vf 0 (d :: r) * 10 + (c.toNat - 48)) % 10 = c.toNat - 48 by omega, ih _ hlen hcm, ofNat48 c hc'.1]
theorem dec_can : ∀ (u : Nat), Can (Lib.decDigits u) ∧ vf 0 (Lib.decDigits u) = u ∧ (1 ≤ u → (Lib.decDigits u).head? ≠ some 48) := by
  intro u
  induction u using Nat.strongRecOn with
  | _ u ih =>
    by_cases h : u < 10
    · rw [Lib.decDigits_one h]
      have h2 : (UInt8.ofNat (48 + u)).toNat = 48 + u := by rw [UInt8.toNat_ofNat']; omega
      refine ⟨⟨by simp, by rw [dgs_cons, h2]; exact ⟨by omega, rfl⟩, fun _ => rfl⟩, ?_, fun hu => ?_⟩
      · show 0 * 10 + ((UInt8.ofNat (48 + u)).toNat - 48) = u
        rw [h2]; omega
      · intro h48
        have : UInt8.ofNat (48 + u) = 48 := by simpa using h48
        have := congrArg UInt8.toNat this
        rw [h2] at this
        have e48 : (48 : UInt8).toNat = 48 := rfl
        omega
    · rw [Lib.decDigits, dif_neg h]
      obtain ⟨i1, i2, i3⟩ := ih (u / 10) (by omega)
      have h2 : (UInt8.ofNat (48 + u % 10)).toNat = 48 + u % 10 := by rw [UInt8.toNat_ofNat']; omega
      have hh : (Lib.decDigits (u / 10) ++ [UInt8.ofNat (48 + u % 10)]).head? = (Lib.decDigits (u / 10)).head? := by
        obtain ⟨d, r, e⟩ := List.exists_cons_of_ne_nil i1.ne
        rw [e]; rfl
      refine ⟨⟨by simp, (dgs_append _ _).2 ⟨i1.dg, by rw [dgs_cons, h2]; exact ⟨by omega, rfl⟩⟩, fun h48 => absurd (hh ▸ h48) (i3 (by omega))⟩, ?_, fun _ => by rw [hh]; exact i3 (by omega)⟩
      rw [vf_append, i2, h2]
      omega
theorem can_long (l : List UInt8) : ∀ a : Nat, 1 ≤ a → dgs l = true → a * 10 ^ l.length ≤ vf a l := by
  induction l with
  | nil => intro a _ _; rw [List.length_nil, Nat.pow_zero, Nat.mul_one]; exact vf_ge [] a
  | cons c r ih =>
    intro a ha h
    have hr := ((dgs_cons c r).1 h).2
    have h1 := ih (a * 10 + (c.toNat - 48)) (by omega) hr
    have h2 : a * 10 * 10 ^ r.length ≤ (a * 10 + (c.toNat - 48)) * 10 ^ r.length := Nat.mul_le_mul_right _ (Nat.le_add_right _ _)
    have h3 : a * 10 ^ (c :: r).length = a * 10 * 10 ^ r.length := by rw [List.length_cons, Nat.pow_succ, Nat.mul_assoc, Nat.mul_comm (10 ^ r.length)]
    rw [h3]
    exact Nat.le_trans h2 h1
theorem can_len {l : List UInt8} (h : Can l) (hv : vf 0 l ≤ 9223372036854775807) : l.length ≤ 19 := by
  obtain ⟨c, r, rfl⟩ := List.exists_cons_of_ne_nil h.ne
  obtain ⟨hc, hr⟩ := (dgs_cons c r).1 h.dg
  by_cases h48 : c = 48
  · have h7 := h.hd (by simp [h48])
    rw [h7]; decide
  · have h3 : c.toNat ≠ 48 := fun e => h48 (UInt8.toNat_inj.1 e)
    have := can_long r (0 * 10 + (c.toNat - 48)) (by omega) hr
    unfold vf at hv
    rw [List.length_cons]
    by_cases hl : 19 ≤ r.length
    · have h6 : (10000000000000000000 : Nat) = 10 ^ 19 := by decide
      have h4 : 10000000000000000000 ≤ 10 ^ r.length := by rw [h6]; exact Nat.pow_le_pow_right (by decide) hl
      clear h6
      have h5 : 1 * 10 ^ r.length ≤ (0 * 10 + (c.toNat - 48)) * 10 ^ r.length := Nat.mul_le_mul_right _ (by omega)
      omega
    · omega
theorem atoi_can {l : List UInt8} (h : Can l) (hv : vf 0 l ≤ 9223372036854775807) : Lib.atoiAll l = .ok (vf 0 l : Int) := by
  obtain ⟨c, r, rfl⟩ := List.exists_cons_of_ne_nil h.ne
  obtain ⟨hc, hr⟩ := (dgs_cons c r).1 h.dg
  rw [Lib.atoiAll_plain c r (by omega) (by omega)]
  unfold Lib.parseMag
  rw [if_neg (by simp), parse_ok _ 0 h.dg (by omega)]
  unfold Lib.signless
  simp only
  rw [if_neg (by omega)]
theorem numV_eq (s : ByteArray) : numV s = numR s.data.toList := by
  generalize hl : s.data.toList = l
  by_cases hC : Can l ∧ vf 0 l ≤ 9223372036854775807
  · obtain ⟨hc, hv⟩ := hC
    have h1 : numV s = some (vf 0 l : Int) := by
      unfold numV
      rw [hl, atoi_can hc hv]
      simp only
      rw [if_pos ⟨by omega, by rw [Lib.itoa_nonneg, can_dec _ l rfl hc]⟩]
    have h2 : numR l = some (vf 0 l : Int) := by
      unfold numR
      rw [if_neg, if_pos hc.dg, if_pos hv]
      rintro (e | e | ⟨e1, e2⟩)
      · exact hc.ne e
      · have := can_len hc hv; omega
      · have := hc.hd e1; omega
    rw [h1, h2]
  · have h2 : numR l = none := by
      unfold numR
      split
      · rfl
      · rename_i hn
        split
        · rename_i hd
          rw [if_neg]
          intro hv
          exact hC ⟨⟨fun e => hn (.inl e), hd, fun e => by
            have h1 : ¬ 1 < l.length := fun hlt => hn (.inr (.inr ⟨e, hlt⟩))
            have h0 : l ≠ [] := fun e => hn (.inl e)
            have := List.length_pos_iff.2 h0
            omega⟩, hv⟩
        · rfl
    rw [h2]
    cases ha : Lib.atoiAll l with
    | ok v =>
      unfold numV
      rw [hl, ha]
      simp only
      rw [if_neg]
      rintro ⟨h0, hi⟩
      obtain ⟨u, rfl⟩ : ∃ u : Nat, v = u := ⟨v.toNat, by omega⟩
      rw [Lib.itoa_nonneg] at hi
      obtain ⟨d1, d2, _⟩ := dec_can u
      have hb := Lib.atoiAll_bounds ha
      exact hC ⟨hi ▸ d1, by rw [← hi, d2]; omega⟩
    | _ =>
      unfold numV
      rw [hl, ha]
end Go.Proofs.YtcppmkblllappaaDoor
