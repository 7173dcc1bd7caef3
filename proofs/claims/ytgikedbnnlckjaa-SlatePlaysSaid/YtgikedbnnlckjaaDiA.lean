/-
  layer 15: numbers as bytes, a half's size and beginning.
-/
import Derived.Test.YtgikedbnnlckjaaSlN
namespace Go.Proofs.Ytgikedbnnlckjaa
open Go.RowKit

def numV (l : List Int) : Int := l.foldl (fun n x => n * 256 + x) 0
theorem numV_snoc (l : List Int) (x : Int) : numV (l ++ [x]) = numV l * 256 + x := by simp [numV]
theorem numG_bd : ∀ (l : List Int) (acc : Int) (k : Nat), 0 ≤ acc → acc < 256 ^ k → Bytes l → 0 ≤ l.foldl (fun n x => n * 256 + x) acc ∧ l.foldl (fun n x => n * 256 + x) acc < 256 ^ (k + l.length)
  | [], acc, k, h1, h2, _ => ⟨h1, by simpa using h2⟩
  | x :: r, acc, k, h1, h2, hb => by
    have hx := hb x (by simp)
    have hp : (256 : Int) ^ (k + 1) = 256 ^ k * 256 := Int.pow_succ 256 k
    have := numG_bd r (acc * 256 + x) (k + 1) (by omega) (by omega) (fun y hy => hb y (by simp [hy]))
    rw [List.foldl_cons, List.length_cons, show k + (r.length + 1) = k + 1 + r.length by omega]
    exact this
theorem numV_bd (l : List Int) (h : Bytes l) : 0 ≤ numV l ∧ numV l < 256 ^ l.length := by
  have := numG_bd l 0 0 (by omega) (by simp) h
  simpa [numV] using this
theorem need_any (n : Int) (w : World) (h : n ≤ 9223372036854775807) : Calls Try.prog 35 #[.int .i64 n] w fun r w' => r = .returned (.int .i64 (if n < 1 then 1 else (n - 1) / 50 + 1)) ∧ w = w' := by
  by_cases h1 : n < 1
  · rw [if_pos h1]
    go_enter Try.func35, Try.ntmps35
    go_wp2_with fail
    go_ret
    exact ⟨rfl, rfl⟩
  · rw [if_neg h1]
    have h2 : 0 ≤ n - 1 := by omega
    have h3 : n - 1 ≤ 9223372036854775806 := by omega
    go_enter Try.func35, Try.ntmps35
    go_wp2_with fail
    go_ret
    exact ⟨rfl, rfl⟩
theorem rneed_any (n : Int) (w : World) (h : 1 ≤ n) (h2 : n ≤ 9223372036854775807) : Calls Try.prog 33 #[.int .i64 n] w fun r w' => r = .returned (.int .i64 ((n - 1) / 50 + 1)) ∧ w = w' := by
  have h0 : 0 ≤ n := by omega
  by_cases h1 : n ≤ 50
  · have e : (n - 1) / 50 + 1 = 1 := by omega
    rw [e]
    go_enter Try.func33, Try.ntmps33
    go_wp2_with fail
    go_ret
    exact ⟨rfl, rfl⟩
  · by_cases h3 : n % 50 = 0
    · have e : (n - 1) / 50 + 1 = n / 50 := by omega
      rw [e]
      go_enter Try.func33, Try.ntmps33
      go_wp2_with fail
      go_ret
      exact ⟨rfl, rfl⟩
    · have e : (n - 1) / 50 + 1 = n / 50 + 1 := by omega
      rw [e]
      go_enter Try.func33, Try.ntmps33
      go_wp2_with fail
      go_ret
      exact ⟨rfl, rfl⟩
theorem size_nil (w : World) : Calls Try.prog 51 #[.pointer none] w fun r w' => r = .returned (.int .i64 0) ∧ w = w' := by
  go_enter Try.func51, Try.ntmps51
  go_wp2_with fail
  refine (sectors_nil _).mono ?_
  rintro r w1 ⟨rfl, rfl⟩
  go_wp2_with fail
  go_ret
  exact ⟨rfl, rfl⟩
theorem size_any (g : Nat) (v : Value) (s : SlS) (w : World) (h : SlIs w g v s) : Calls Try.prog 51 #[slP g] w fun r w' => r = .returned (.int .i64 ((s.n / 2 : Nat) : Int)) ∧ w = w' := by
  have H := Kp.mk h
  have hn := h.k.n1
  have e : ((s.n / 2 : Nat) : Int) = (s.n : Int) / 2 := by omega
  rw [e]
  clear h e
  go_enter Try.func51, Try.ntmps51
  go_wp2_with fail
  refine (sectors_any g v s _ H.out).mono ?_
  rintro r w1 ⟨rfl, rfl⟩
  go_wp2_with fail
  go_ret
  exact ⟨rfl, rfl⟩
theorem check_nil (w : World) : Calls Try.prog 47 #[.pointer none] w fun r w' => r = .returned (.int .i64 2) ∧ w = w' := by
  go_enter Try.func47, Try.ntmps47
  go_wp2_with fail
  go_ret
  exact ⟨rfl, rfl⟩
theorem check_any (g : Nat) (v : Value) (s : SlS) (w : World) (h : SlIs w g v s) : Calls Try.prog 47 #[slP g] w fun r w' => r = .returned (.int .i64 (if s.n < 2 then 1 else 0)) ∧ w = w' := by
  have H := Kp.mk h
  have hn := h.k.n1
  clear h
  by_cases h2 : s.n < 2
  · have e : Kp (s.n / 2 = 0) := ⟨by omega⟩
    rw [if_pos h2]
    clear h2 hn
    go_enter Try.func47, Try.ntmps47
    go_wp2_with fail
    refine (size_any g v s _ H.out).mono ?_
    rintro r w1 ⟨rfl, rfl⟩
    rw [e.out]
    go_wp2_with fail
    go_ret
    exact ⟨rfl, rfl⟩
  · obtain ⟨m, hm⟩ : ∃ m, m = s.n / 2 := ⟨_, rfl⟩
    have e := Kp.mk hm
    have hm1 : ¬ (m : Int) < 1 := by omega
    rw [if_neg h2]
    clear h2 hn hm
    go_enter Try.func47, Try.ntmps47
    go_wp2_with fail
    refine (size_any g v s _ H.out).mono ?_
    rintro r w1 ⟨rfl, rfl⟩
    rw [← e.out]
    go_wp2_with fail
    go_ret
    exact ⟨rfl, rfl⟩
/-- The first sector of a generation's half. -/
def begN (n : Nat) (gen : Int) : Nat := (gen % 2).toNat * (n / 2)
theorem begin_any (g : Nat) (v : Value) (s : SlS) (gen : Int) (w : World) (h : SlIs w g v s) (hg : 0 ≤ gen ∧ gen ≤ 4294967295) : Calls Try.prog 58 #[slP g, .int .u32 gen] w fun r w' => r = .returned (.int .i64 (begN s.n gen : Nat)) ∧ w = w' := by
  have H := Kp.mk h
  have hn := h.k.n1
  obtain ⟨g0, g1⟩ := hg
  obtain ⟨m, hm⟩ : ∃ m, m = s.n / 2 := ⟨_, rfl⟩
  have e := Kp.mk hm
  have hm2 : (m : Int) ≤ 2048 := by omega
  have HR : Kp (begN s.n gen = (gen % 2).toNat * m) := ⟨by unfold begN; rw [← hm]⟩
  have hp : gen % 2 = 0 ∨ gen % 2 = 1 := by omega
  clear hm hn h
  rcases hp with hp | hp
  · have HE : Kp ((0 : Int) = (begN s.n gen : Nat)) := ⟨by rw [HR.out, hp]; simp⟩
    go_enter Try.func58, Try.ntmps58
    go_wp2_with fail
    refine (size_any g v s _ H.out).mono ?_
    rintro r w1 ⟨rfl, rfl⟩
    rw [← e.out]
    go_wp2_with fail
    go_ret
    exact ⟨reti HE.out, rfl⟩
  · have HE : Kp ((m : Int) = (begN s.n gen : Nat)) := ⟨by rw [HR.out, hp]; simp⟩
    go_enter Try.func58, Try.ntmps58
    go_wp2_with fail
    refine (size_any g v s _ H.out).mono ?_
    rintro r w1 ⟨rfl, rfl⟩
    rw [← e.out]
    go_wp2_with fail
    go_ret
    exact ⟨reti HE.out, rfl⟩
end Go.Proofs.Ytgikedbnnlckjaa
