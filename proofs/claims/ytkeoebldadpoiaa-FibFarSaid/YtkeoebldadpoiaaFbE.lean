/-
  Rows of ints: Index, Contains, In, SameInts; a node's next hop.
-/
import Derived.Test.YtkeoebldadpoiaaFbC
namespace Go.Proofs.Ytkeoebldadpoiaa
open Go.RowKit

def FirstI (l : List Int) (x : Int) (k : Int) : Prop := (k = -1 ∧ ∀ j, j < l.length → l.getD j default ≠ x) ∨ ∃ i : Nat, i < l.length ∧ k = i ∧ l.getD i default = x
def IdxI (l : List Int) (x : Int) (w : World) (r : Ending) (w' : World) : Prop := ∃ k, FirstI l x k ∧ r = .returned (.int .i64 k) ∧ w = w'
def inB (l : List Int) (x : Int) : Bool := decide (x ∈ l)
theorem inB_no {l : List Int} {x : Int} (h : ∀ j, j < l.length → l.getD j default ≠ x) : inB l x = false := by
  simp only [inB, decide_eq_false_iff_not]
  intro hx
  obtain ⟨j, hj, rfl⟩ := List.getElem_of_mem hx
  exact h j hj (gd hj).symm
theorem inB_yes {l : List Int} {x : Int} {i : Nat} (hi : i < l.length) (h : l.getD i default = x) : inB l x = true := by
  simp only [inB, decide_eq_true_eq]
  rw [← h, ← gd hi]
  exact List.getElem_mem hi
set_option maxHeartbeats 1600000 in
theorem indexI_any (l : List Int) (x : Int) (M : Nat) (v : Value) (w : World) (hv : HoldsF ic 1 w M v l) : Calls Try.prog 28 #[v, .int .i64 x] w (IdxI l x w) := by
  obtain ⟨a, cap, rfl⟩ := hv.shape
  have HV := Kp.mk hv
  have HL : Kp (l.length ≤ maxLen) := ⟨hv.len⟩
  clear hv
  obtain ⟨n, hn⟩ : ∃ n, n = l.length := ⟨_, rfl⟩
  rw [← hn] at HV ⊢
  have HN := Kp.mk hn
  have hnm : n ≤ 9223372036854775807 := by have := HL.out; unfold maxLen at this; omega
  clear hn HL
  go_enter Try.func28, Try.ntmps28
  go_wp2_with fail
  go_loop [5, 8] (fun _ c => ∃ i : Nat, i ≤ n ∧ c = .int .i64 i ∧ Kp (∀ j, j < i → l.getD j default ≠ x)) (fun _ c => n - (intOf c).toNat)
  case atStart => exact ⟨0, by omega, rfl, ⟨fun j hj => by omega⟩⟩
  case round =>
    obtain ⟨i, hi, rfl, HNE⟩ := hrel
    by_cases hlt : i < n
    · obtain ⟨b, off, rfl, hbs, hbM, h0⟩ := HV.out.int (i := i) (by rw [← HN.out]; exact hlt)
      have HHI := Kp.mk hlt
      clear hbs hbM
      have t1 : (i : Int) < n := by omega
      generalize hh : l.getD i default = h at h0
      have HH := Kp.mk hh
      clear hh
      cases hd : (x == h) with
      | false =>
        have HD := Kp.mk hd
        go_wp2_with fail
        exact ⟨⟨i + 1, by omega, by go_num, ⟨fun j hj => by
          by_cases hji : j < i
          · exact HNE.out j hji
          · obtain rfl : j = i := by omega
            rw [HH.out]; intro e; have := HD.out; simp [e] at this⟩⟩, by simp [intOf]; omega⟩
      | true =>
        have HD := Kp.mk hd
        go_wp2_with fail
        go_ret
        exact ⟨(i : Int), .inr ⟨i, by rw [← HN.out]; exact HHI.out, rfl, by rw [HH.out]; exact (by simpa using HD.out : x = h).symm⟩, rfl, rfl⟩
    · obtain rfl : i = n := by omega
      go_wp2_with fail
      go_ret
      exact ⟨-1, .inl ⟨rfl, by rw [← HN.out]; exact HNE.out⟩, rfl, rfl⟩
set_option maxHeartbeats 800000 in
theorem contains_any (l : List Int) (x : Int) (M : Nat) (v : Value) (w : World) (hv : HoldsF ic 1 w M v l) : Calls Try.prog 23 #[v, .int .i64 x] w fun r w' => r = .returned (.bool (inB l x)) ∧ w = w' := by
  have HV := Kp.mk hv
  clear hv
  go_enter Try.func23, Try.ntmps23
  go_wp2_with fail
  refine (indexI_any l x M v _ HV.out).mono ?_
  rintro r w1 ⟨k, hk, rfl, rfl⟩
  rcases hk with ⟨rfl, hne⟩ | ⟨i, hi, rfl, he⟩
  · have HQ := Kp.mk (inB_no hne)
    clear hne
    go_wp2_with fail
    go_ret
    exact ⟨retb HQ.out.symm, rfl⟩
  · have HQ := Kp.mk (inB_yes hi he)
    have t : decide ((0 : Int) ≤ (i : Int)) = true := by simp
    clear he hi
    go_wp2_with fail
    go_ret
    exact ⟨retb HQ.out.symm, rfl⟩
set_option maxHeartbeats 1600000 in
theorem in_any (l : List Int) (x : Int) (M : Nat) (v : Value) (w : World) (hv : HoldsF ic 1 w M v l) : Calls Try.prog 24 #[v, .int .i64 x] w fun r w' => r = .returned (.bool (inB l x)) ∧ w = w' := by
  obtain ⟨a, cap, rfl⟩ := hv.shape
  have HV := Kp.mk hv
  have HL : Kp (l.length ≤ maxLen) := ⟨hv.len⟩
  clear hv
  obtain ⟨n, hn⟩ : ∃ n, n = l.length := ⟨_, rfl⟩
  rw [← hn] at HV ⊢
  have HN := Kp.mk hn
  have hnm : n ≤ 9223372036854775807 := by have := HL.out; unfold maxLen at this; omega
  clear hn HL
  go_enter Try.func24, Try.ntmps24
  go_wp2_with fail
  go_loop [5] (fun c => ∃ i : Nat, i ≤ n ∧ c = .int .i64 i ∧ Kp (∀ j, j < i → l.getD j default ≠ x)) (fun c => n - (intOf c).toNat)
  case atStart => exact ⟨0, by omega, rfl, ⟨fun j hj => by omega⟩⟩
  case round =>
    obtain ⟨i, hi, rfl, HNE⟩ := hrel
    by_cases hlt : i < n
    · obtain ⟨b, off, rfl, hbs, hbM, h0⟩ := HV.out.int (i := i) (by rw [← HN.out]; exact hlt)
      have HHI := Kp.mk hlt
      clear hbs hbM
      have t1 : (i : Int) < n := by omega
      generalize hh : l.getD i default = h at h0
      have HH := Kp.mk hh
      clear hh
      cases hd : (h == x) with
      | false =>
        have HD := Kp.mk hd
        go_wp2_with fail
        exact ⟨⟨i + 1, by omega, by go_num, ⟨fun j hj => by
          by_cases hji : j < i
          · exact HNE.out j hji
          · obtain rfl : j = i := by omega
            rw [HH.out]; simpa using HD.out⟩⟩, by simp [intOf]; omega⟩
      | true =>
        have HQ := Kp.mk (inB_yes (x := x) (i := i) (l := l) (by rw [← HN.out]; exact hlt) (by rw [HH.out]; simpa using hd))
        go_wp2_with fail
        go_ret
        exact ⟨retb HQ.out.symm, rfl⟩
    · obtain rfl : i = n := by omega
      have HQ := Kp.mk (inB_no (x := x) (l := l) (by rw [← HN.out]; exact HNE.out))
      go_wp2_with fail
      go_ret
      exact ⟨retb HQ.out.symm, rfl⟩
set_option maxHeartbeats 1600000 in
theorem sameInts_any (l : List Int) (M1 M2 : Nat) (v1 v2 : Value) (w : World) (hv1 : HoldsF ic 1 w M1 v1 l) (hv2 : HoldsF ic 1 w M2 v2 l) :
    Calls Try.prog 16 #[v1, v2] w fun r w' => r = .returned (.bool true) ∧ ∃ k, w' = w.drewN k := by
  obtain ⟨a1, cap1, rfl⟩ := hv1.shape
  obtain ⟨a2, cap2, rfl⟩ := hv2.shape
  have H1 := Kp.mk hv1
  have H2 := Kp.mk hv2
  have HL : Kp (l.length ≤ maxLen) := ⟨hv1.len⟩
  clear hv1 hv2
  obtain ⟨n, hn⟩ : ∃ n, n = l.length := ⟨_, rfl⟩
  rw [← hn] at H1 H2 ⊢
  have HN := Kp.mk hn
  have hnm : n ≤ 9223372036854775807 := by have := HL.out; unfold maxLen at this; omega
  clear hn HL
  go_enter Try.func16, Try.ntmps16
  go_wp2_with fail
  go_loopw [5] (fun c wr => ∃ i : Nat, i ≤ n ∧ c = .int .i64 i ∧ Kp (∃ k, wr = w.drewN k)) (fun c _ => n - (intOf c).toNat)
  case atStart => exact ⟨0, by omega, rfl, ⟨0, rfl⟩⟩
  case round =>
    obtain ⟨i, hi, rfl, ⟨k, rfl⟩⟩ := hrel
    by_cases hlt : i < n
    · obtain ⟨b1, off1, rfl, hbs, hbM, h1⟩ := H1.out.int (i := i) (by rw [← HN.out]; exact hlt)
      obtain ⟨b2, off2, rfl, hbs2, hbM2, h2⟩ := H2.out.int (i := i) (by rw [← HN.out]; exact hlt)
      clear hbs hbM hbs2 hbM2
      have t1 : (i : Int) < n := by omega
      generalize l.getD i default = h at h1 h2
      have hhh : (h != h) = false := by simp
      go_wp2_with fail
      go_quiet (fail)
      go_wp2_with fail
      exact ⟨⟨i + 1, by omega, by go_num, ⟨k + nq, rfl⟩⟩, by simp [intOf]; omega⟩
    · obtain rfl : i = n := by omega
      go_wp2_with fail
      go_ret
      exact ⟨rfl, k, rfl⟩
theorem isOf_any (a : Int) (n : Nat) (w : World) : Calls Try.prog 26 #[.int .i64 a, .int .i64 n] w fun r w' => r = .returned (.bool (decide (0 ≤ a ∧ a < n))) ∧ w = w' := by
  by_cases h0 : 0 ≤ a
  · have H : Kp (decide (0 ≤ a ∧ a < (n : Int)) = decide (a < (n : Int))) := ⟨by simp [h0]⟩
    go_enter Try.func26, Try.ntmps26
    go_wp2_with fail
    go_ret
    exact ⟨retb H.out.symm, rfl⟩
  · have H : Kp (decide (0 ≤ a ∧ a < (n : Int)) = false) := ⟨by simp [h0]⟩
    have h1 : decide (0 ≤ a) = false := by simp [h0]
    clear h0
    go_enter Try.func26, Try.ntmps26
    go_wp2_with fail
    go_ret
    exact ⟨by first | rfl | exact retb H.out.symm, rfl⟩
/-- A slice that holds tables. -/
def TabsIs (w : World) (M : Nat) (v : Value) (T : List (List H3)) : Prop := ∃ vs : List Value, vs.length = T.length ∧ HoldsF vc 1 w M v vs ∧ ∀ i, i < T.length → HoldsF hc 3 w M (vs.getD i default) (T.getD i default)
theorem TabsIs.below {w w' : World} {M : Nat} {v : Value} {T : List (List H3)} (h : TabsIs w M v T) (hb : Below w.heap.size w w') : TabsIs w' M v T := by
  obtain ⟨vs, h1, h2, h3⟩ := h
  exact ⟨vs, h1, h2.below hb, fun i hi => (h3 i hi).below hb⟩
theorem TabsIs.shape {w : World} {M : Nat} {v : Value} {T : List (List H3)} (h : TabsIs w M v T) : (∃ a cap, v = .slice a T.length cap) ∧ T.length ≤ maxLen := by
  obtain ⟨vs, h1, h2, h3⟩ := h
  have := h2.len
  rw [← h1]
  exact ⟨h2.shape, this⟩
theorem TabsIs.at {w : World} {M : Nat} {a : Option Addr} {n cap : Nat} {T : List (List H3)} (h : TabsIs w M (.slice a n cap) T) {i : Nat} (hi : i < T.length) :
    ∃ b off ai ni ci, a = some ⟨b, off, none⟩ ∧ b < w.heap.size ∧ w.cell? ⟨b, off + i, none⟩ = some (.slice ai ni ci) ∧ HoldsF hc 3 w M (.slice ai ni ci) (T.getD i default) := by
  obtain ⟨vs, h1, h2, h3⟩ := h
  obtain ⟨b, off, e, hs, hM, hc⟩ := h2.val (i := i) (by rw [h1]; exact hi)
  have h4 := h3 i hi
  obtain ⟨a', c', e'⟩ := h4.shape
  rw [e'] at hc h4
  exact ⟨b, off, a', _, c', e, hs, hc, h4⟩
def nextF (T : List (List H3)) (a dest : Int) : Int := if 0 ≤ a ∧ a < (T.length : Int) then lookF (T.getD a.toNat default) dest else -1
set_option maxHeartbeats 1600000 in
theorem next_any (T : List (List H3)) (a dest : Int) (M : Nat) (v : Value) (w : World) (hv : TabsIs w M v T) :
    Calls Try.prog 22 #[v, .int .i64 a, .int .i64 dest] w fun r w' => r = .returned (.int .i64 (nextF T a dest)) ∧ Below w.heap.size w w' := by
  obtain ⟨⟨p, cap, rfl⟩, hlen⟩ := hv.shape
  have HV := Kp.mk hv
  have HL := Kp.mk hlen
  clear hv hlen
  by_cases h : 0 ≤ a ∧ a < (T.length : Int)
  · have HQ0 : nextF T a dest = lookF (T.getD a.toNat default) dest := by unfold nextF; rw [if_pos h]
    have HI : Kp (decide (0 ≤ a ∧ a < (T.length : Int)) = true) := ⟨by simp [h]⟩
    obtain ⟨i, rfl⟩ : ∃ i : Nat, a = i := ⟨a.toNat, by omega⟩
    have hi : i < T.length := by omega
    obtain ⟨b, off, ai, ni, ci, rfl, hbs, hc, hH⟩ := HV.out.at hi
    have t1 : (i : Int) < T.length := by omega
    have HQ : Kp (nextF T i dest = lookF (T.getD i default) dest) := ⟨HQ0⟩
    generalize T.getD i default = t at hH HQ
    have HH := Kp.mk hH
    clear h hH hbs HQ0
    go_enter Try.func22, Try.ntmps22
    go_wp2_with fail
    refine (isOf_any _ _ _).mono ?_
    rintro r w1 ⟨rfl, rfl⟩
    rw [HI.out]
    go_wp2_with fail
    refine (lookup_any _ dest M _ _ HH.out).mono ?_
    rintro r w1 ⟨rfl, hb⟩
    have E := Kp.mk hb
    clear hb
    go_wp2_with fail
    go_ret
    exact ⟨reti HQ.out.symm, E.out⟩
  · have HQ : Kp (nextF T a dest = -1) := ⟨by unfold nextF; rw [if_neg h]⟩
    have HI : Kp (decide (0 ≤ a ∧ a < (T.length : Int)) = false) := ⟨by simpa using h⟩
    clear h
    go_enter Try.func22, Try.ntmps22
    go_wp2_with fail
    refine (isOf_any _ _ _).mono ?_
    rintro r w1 ⟨rfl, rfl⟩
    rw [HI.out]
    go_wp2_with fail
    go_ret
    exact ⟨reti HQ.out.symm, Below.refl _ _⟩
end Go.Proofs.Ytkeoebldadpoiaa
