/-
  The digits of a message: plain arithmetic.
-/
namespace Go.Proofs.YtpljjmdkagbjpaaDoor

/-- The message's digit i. -/
def dig (m : List Int) (i : Nat) : Int := m.getD (i / 4) 0 / 4 ^ (3 - i % 4) % 4
/-- What is left behind k digits. -/
def leftU (m : List Int) : Nat → Int
  | 0 => 0
  | k + 1 => leftU m k + (3 - dig m k)
def chk (l : Int) (j : Nat) : Int := l / 4 ^ (3 - j) % 4
/-- All digits. -/
def digA (m : List Int) (c : Nat) : Int := if c < 64 then dig m c else chk (leftU m 64) (c - 64)
theorem dig_range (m : List Int) (i : Nat) : 0 ≤ dig m i ∧ dig m i ≤ 3 := by unfold dig; omega
theorem leftU_range (m : List Int) (k : Nat) : 0 ≤ leftU m k ∧ leftU m k ≤ 3 * k := by
  induction k with
  | zero => simp [leftU]
  | succ k ih =>
    have := dig_range m k
    show 0 ≤ leftU m k + (3 - dig m k) ∧ leftU m k + (3 - dig m k) ≤ _
    omega
theorem digA_range (m : List Int) (c : Nat) : 0 ≤ digA m c ∧ digA m c ≤ 3 := by
  unfold digA
  split
  · exact dig_range m c
  · unfold chk; omega
theorem chk_all {l : Int} (h0 : 0 ≤ l) (h1 : l < 256) : l = 64 * chk l 0 + 16 * chk l 1 + 4 * chk l 2 + chk l 3 := by
  simp only [chk, Nat.sub_zero, Nat.reduceSub]
  omega
theorem leftU_le {a b : List Int} (k : Nat) (h : ∀ i, i < k → dig b i ≤ dig a i) : leftU a k ≤ leftU b k := by
  induction k with
  | zero => simp [leftU]
  | succ k ih =>
    have h1 := ih fun i hi => h i (by omega)
    have h2 := h k (by omega)
    show leftU a k + (3 - dig a k) ≤ leftU b k + (3 - dig b k)
    omega
theorem leftU_lt {a b : List Int} (k : Nat) (h : ∀ i, i < k → dig b i ≤ dig a i) (i : Nat) (hi : i < k) (hne : dig b i ≠ dig a i) : leftU a k < leftU b k := by
  induction k with
  | zero => omega
  | succ k ih =>
    have h1 := leftU_le k (a := a) (b := b) fun i hi => h i (by omega)
    have h2 := h k (by omega)
    show leftU a k + (3 - dig a k) < leftU b k + (3 - dig b k)
    by_cases e : i = k
    · subst e; omega
    · have := ih (fun i hi => h i (by omega)) (by omega)
      omega
theorem byte_of (m : List Int) (j : Nat) (h0 : 0 ≤ m.getD j 0) (h1 : m.getD j 0 ≤ 255) : m.getD j 0 = 64 * dig m (4 * j) + 16 * dig m (4 * j + 1) + 4 * dig m (4 * j + 2) + dig m (4 * j + 3) := by
  unfold dig
  rw [show 4 * j / 4 = j by omega, show (4 * j + 1) / 4 = j by omega, show (4 * j + 2) / 4 = j by omega, show (4 * j + 3) / 4 = j by omega,
    show 4 * j % 4 = 0 by omega, show (4 * j + 1) % 4 = 1 by omega, show (4 * j + 2) % 4 = 2 by omega, show (4 * j + 3) % 4 = 3 by omega]
  generalize m.getD j 0 = x at *
  simp only [Nat.sub_zero, Nat.reduceSub]
  omega
theorem same_of_digs {a b : List Int} (ha : a.length = 16) (hb : b.length = 16) (ba : ∀ x ∈ a, 0 ≤ x ∧ x ≤ 255) (bb : ∀ x ∈ b, 0 ≤ x ∧ x ≤ 255) (h : ∀ i, i < 64 → dig a i = dig b i) : a = b := by
  apply List.ext_getElem (by omega)
  intro j h1 h2
  have ea : a.getD j 0 = a[j] := by rw [List.getD_eq_getElem?_getD, List.getElem?_eq_getElem h1]; rfl
  have eb : b.getD j 0 = b[j] := by rw [List.getD_eq_getElem?_getD, List.getElem?_eq_getElem h2]; rfl
  have ka := byte_of a j (by rw [ea]; exact (ba _ (List.getElem_mem _)).1) (by rw [ea]; exact (ba _ (List.getElem_mem _)).2)
  have kb := byte_of b j (by rw [eb]; exact (bb _ (List.getElem_mem _)).1) (by rw [eb]; exact (bb _ (List.getElem_mem _)).2)
  rw [h (4 * j) (by omega), h (4 * j + 1) (by omega), h (4 * j + 2) (by omega), h (4 * j + 3) (by omega)] at ka
  rw [← ea, ← eb, ka, ← kb]
theorem apart {a b : List Int} (ha : a.length = 16) (hb : b.length = 16) (ba : ∀ x ∈ a, 0 ≤ x ∧ x ≤ 255) (bb : ∀ x ∈ b, 0 ≤ x ∧ x ≤ 255) (hne : a ≠ b) : ∃ c, c < 68 ∧ digA a c < digA b c := by
  apply Classical.byContradiction
  intro hno
  have hle : ∀ c, c < 68 → digA b c ≤ digA a c := fun c hc => by
    by_cases h : digA a c < digA b c
    · exact absurd ⟨c, hc, h⟩ hno
    · omega
  have hd : ∀ i, i < 64 → dig b i ≤ dig a i := fun i hi => by
    have h := hle i (by omega)
    unfold digA at h
    rwa [if_pos hi, if_pos hi] at h
  have hex : ∃ i, i < 64 ∧ dig b i ≠ dig a i := by
    apply Classical.byContradiction
    intro hn
    exact hne (same_of_digs ha hb ba bb fun i hi => Classical.byContradiction fun h => hn ⟨i, hi, fun e => h e.symm⟩)
  obtain ⟨i, hi, hne2⟩ := hex
  have hlt := leftU_lt 64 hd i hi hne2
  have ra := leftU_range a 64
  have rb := leftU_range b 64
  have ka := chk_all ra.1 (by omega)
  have kb := chk_all rb.1 (by omega)
  have hc : ∀ j, j < 4 → chk (leftU b 64) j ≤ chk (leftU a 64) j := fun j hj => by
    have h := hle (64 + j) (by omega)
    unfold digA at h
    rw [if_neg (by omega), if_neg (by omega), show 64 + j - 64 = j by omega] at h
    exact h
  have h0 := hc 0 (by omega)
  have h1 := hc 1 (by omega)
  have h2 := hc 2 (by omega)
  have h3 := hc 3 (by omega)
  omega
/-- Is some digit of the first c lower? -/
def lowU (a b : List Int) : Nat → Bool
  | 0 => false
  | c + 1 => lowU a b c || decide (digA a c < digA b c)
theorem lowU_some {a b : List Int} : ∀ n c, c < n → digA a c < digA b c → lowU a b n = true := by
  intro n
  induction n with
  | zero => intro c hc; omega
  | succ n ih =>
    intro c hc h
    show (lowU a b n || decide (digA a n < digA b n)) = true
    by_cases e : c = n
    · subst e; simp [h]
    · simp [ih c (by omega) h]
theorem lowU_same (a : List Int) (n : Nat) : lowU a a n = false := by
  induction n with
  | zero => rfl
  | succ n ih =>
    show (lowU a a n || decide (digA a n < digA a n)) = false
    rw [ih]
    simp
end Go.Proofs.YtpljjmdkagbjpaaDoor
