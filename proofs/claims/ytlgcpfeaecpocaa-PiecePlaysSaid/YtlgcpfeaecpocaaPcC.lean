/-
  A joiner with its parts: how many bytes are there, how many pieces.
-/
import Derived.Test.YtlgcpfeaecpocaaPcB
namespace Go.Proofs.Ytlgcpfeaecpocaa
open Go.RowKit

/-- A part: whether it is there, its text as a value, its text. -/
structure PtV where
  there : Bool
  v : Value
  l : List Int
def ptc (x : PtV) : List Value := [.bool x.there, x.v]
def pcells (ps : List PtV) : List Value := (ps.map ptc).flatten
theorem pcells_len (ps : List PtV) : (pcells ps).length = 2 * ps.length := by
  induction ps with
  | nil => rfl
  | cons x r ih =>
    unfold pcells at *
    rw [List.map_cons, List.flatten_cons, List.length_append, ih]
    simp [ptc]
    omega
theorem pcells_at {ps : List PtV} {i : Nat} (hi : i < ps.length) {j : Nat} {u : Value} (hu : (ptc ps[i])[j]? = some u) : (pcells ps)[i * 2 + j]? = some u := by
  have hj : j < 2 := by
    have := (List.getElem?_eq_some_iff.1 hu).1
    simpa [ptc] using this
  have e : pcells ps = pcells (ps.take i) ++ (ptc ps[i] ++ pcells (ps.drop (i + 1))) := by
    unfold pcells
    conv => lhs; rw [← List.take_append_drop i ps, List.map_append, List.flatten_append, List.drop_eq_getElem_cons hi, List.map_cons, List.flatten_cons]
  have hl : (pcells (ps.take i)).length = i * 2 := by
    rw [pcells_len, List.length_take, Nat.min_eq_left (Nat.le_of_lt hi)]; omega
  rw [e, List.getElem?_append_right (by omega), hl, Nat.add_sub_cancel_left, List.getElem?_append_left (by have := (List.getElem?_eq_some_iff.1 hu).1; exact this)]
  exact hu
def pa (q n : Nat) : Option Addr := if n = 0 then none else some ⟨q, 0, none⟩
structure PjM where
  began : Bool
  id : Int
  ps : List PtV
/-- The joiner's object lies in block g, the row of its parts in block q. -/
structure JIs (w : World) (g q : Nat) (J : PjM) : Prop where
  b : Blk w g (jObj ⟨J.began, J.id, pa q J.ps.length, J.ps.length, J.ps.length⟩)
  r : 0 < J.ps.length → Blk w q (.cells (pcells J.ps).toArray 94)
  t : ∀ x ∈ J.ps, HoldsB w w.heap.size x.v x.l ∧ x.l.length ≤ 4096
  n : J.ps.length ≤ 32
  i : 0 ≤ J.id ∧ J.id ≤ 4294967295
theorem HoldsB.grow {w w' : World} {v : Value} {l : List Int} (h : HoldsB w w.heap.size v l) (hb : Below w.heap.size w w') : HoldsB w' w'.heap.size v l := (h.keep hb).mono hb.size
theorem JIs.keep {w w' : World} {g q : Nat} {J : PjM} (h : JIs w g q J) (hb : Below w.heap.size w w') : JIs w' g q J :=
  ⟨h.b.keep hb, fun h0 => (h.r h0).keep hb, fun x hx => ⟨(h.t x hx).1.grow hb, (h.t x hx).2⟩, h.n, h.i⟩
theorem JIs.at {w : World} {g q : Nat} {J : PjM} (h : JIs w g q J) {i : Nat} (hi : i < J.ps.length) : w.rangeAt q (i * 2) (ptc J.ps[i]) := fun j u hu => by
  have h7 := pcells_at hi hu
  rw [cell_of_row w q (i * 2 + j) _ 94 (0, 0) (h.r (by omega))]
  rw [List.getElem?_toArray]
  exact h7
theorem pa_some {q n : Nat} (h : 0 < n) : pa q n = some ⟨q, 0, none⟩ := by unfold pa; rw [if_neg (by omega)]
def lens (ps : List PtV) : Nat := (ps.map fun x => x.l.length).sum
theorem lens_succ {ps : List PtV} {i : Nat} (hi : i < ps.length) : lens (ps.take (i + 1)) = lens (ps.take i) + ps[i].l.length := by
  unfold lens
  rw [List.take_add_one, List.getElem?_eq_getElem hi]
  simp only [Option.toList, List.map_append, List.sum_append, List.map_cons, List.map_nil, List.sum_cons, List.sum_nil, Nat.add_zero]
def haves (ps : List PtV) : Nat := (ps.filter fun x => x.there).length
theorem haves_succ {ps : List PtV} {i : Nat} (hi : i < ps.length) : haves (ps.take (i + 1)) = haves (ps.take i) + (if ps[i].there then 1 else 0) := by
  unfold haves
  rw [List.take_add_one, List.getElem?_eq_getElem hi, List.filter_append, List.length_append]
  cases h : ps[i].there <;> simp [h]
theorem lens_le {ps : List PtV} (h : ∀ x ∈ ps, x.l.length ≤ 4096) : lens ps ≤ 4096 * ps.length := by
  induction ps with
  | nil => simp [lens]
  | cons x r ih =>
    have h1 := ih fun y hy => h y (List.mem_cons_of_mem _ hy)
    have h2 := h x (List.mem_cons_self ..)
    unfold lens at *
    simp only [List.map_cons, List.sum_cons, List.length_cons]
    omega
theorem haves_le (ps : List PtV) : haves ps ≤ ps.length := List.length_filter_le ..
theorem info94s : (Try.prog.info? 94).map (·.size) = some 2 := by kernel_rfl
set_option maxHeartbeats 2000000 in
theorem size_any (g q : Nat) (J : PjM) (w : World) (h : JIs w g q J) : Calls Try.prog 62 #[jP g] w fun r w' => r = .returned (.int .i64 (lens J.ps : Nat)) ∧ Below w.heap.size w w' := by
  have H := Kp.mk h
  obtain ⟨⟨c0, c1, c2⟩, -⟩ := jcells h.b
  clear h
  obtain ⟨N, hN⟩ : ∃ N, N = J.ps.length := ⟨_, rfl⟩
  obtain ⟨A, hA⟩ : ∃ A, A = pa q J.ps.length := ⟨_, rfl⟩
  have HN := Kp.mk hN
  have HA := Kp.mk hA
  have HN32 : N ≤ 32 := by rw [hN]; exact H.out.n
  simp only [] at c2
  rw [← hA, ← hN] at c2
  clear hN hA
  go_enter Try.func62, Try.ntmps62
  go_wp2_with fail
  go_loopw [3, 11] (fun s c wr => ∃ i : Nat, i ≤ N ∧ c = .int .i64 i ∧ s = .int .i64 (lens (J.ps.take i) : Nat) ∧ Kp (Below w.heap.size w wr)) (fun _ c _ => N - (intOf c).toNat)
  case atStart => exact ⟨0, by omega, rfl, rfl, ⟨Below.refl _ _⟩⟩
  case round =>
    obtain ⟨i, hi, rfl, rfl, HB⟩ := hrel
    by_cases hlt : i < N
    · have hlt' : (i : Int) < (N : Int) := by omega
      have hip : i < J.ps.length := by rw [← HN.out]; exact hlt
      have hAq : A = some ⟨q, 0, none⟩ := by rw [HA.out]; exact pa_some (by omega)
      subst hAq
      have HJ : Kp (JIs wr g q J) := ⟨H.out.keep HB.out⟩
      have HS : Kp (lens (J.ps.take (i + 1)) = lens (J.ps.take i) + J.ps[i].l.length) := ⟨lens_succ hip⟩
      have HL1 : lens (J.ps.take i) ≤ 131072 := by
        have h1 := lens_le (ps := J.ps.take i) fun y hy => (H.out.t y (List.mem_of_mem_take hy)).2
        have h2 : (J.ps.take i).length ≤ 32 := by rw [List.length_take]; omega
        omega
      have HL2 : J.ps[i].l.length ≤ 4096 := (H.out.t _ (List.getElem_mem hip)).2
      obtain ⟨a, n, cap, hv, hn⟩ := (H.out.t _ (List.getElem_mem hip)).1.slice
      have HRG : Kp (wr.rangeAt q (i * 2) [.bool J.ps[i].there, .slice a n cap]) := ⟨by have := HJ.out.at hip; unfold ptc at this; rw [hv] at this; exact this⟩
      rw [← hn] at HL2
      have HSn : Kp ((lens (J.ps.take (i + 1)) : Nat) = lens (J.ps.take i) + n) := ⟨by rw [hn]; exact HS.out⟩
      generalize lens (J.ps.take i) = s0 at HSn HL1 ⊢
      generalize J.ps[i].there = th at HRG ⊢
      clear hv hn HS hip
      go_wp2_with (refine wpList_load_mid rfl 94 (.tmp 13) rfl q (i * 2) rfl [.bool th, .slice a n cap] _ HRG.out Try.underlying94 rfl info94s ?_)
      refine ⟨⟨i + 1, by omega, rfl, ?_, ⟨HB.out.alloc HB.out.size _⟩⟩, ?_⟩
      · rw [HSn.out]
        rfl
      · simp only [intOf]
        omega
    · have hle : (N : Int) ≤ (i : Int) := by omega
      have hee : i = N := by omega
      have HE : Kp (lens (J.ps.take i) = lens J.ps) := ⟨by rw [List.take_of_length_le (by rw [hee, HN.out]; exact Nat.le_refl _)]⟩
      rw [HE.out]
      go_wp2_with fail
      go_ret
      exact ⟨rfl, HB.out⟩
set_option maxHeartbeats 2000000 in
theorem waits_any (g q : Nat) (J : PjM) (w : World) (h : JIs w g q J) : Calls Try.prog 21 #[jP g] w fun r w' => r = .returned (.tuple #[.int .i64 (haves J.ps : Nat), .int .i64 (J.ps.length : Nat)]) ∧ Below w.heap.size w w' := by
  have H := Kp.mk h
  obtain ⟨⟨c0, c1, c2⟩, -⟩ := jcells h.b
  have HG : Kp (g < w.heap.size) := ⟨h.b.lt⟩
  clear h
  obtain ⟨N, hN⟩ : ∃ N, N = J.ps.length := ⟨_, rfl⟩
  obtain ⟨A, hA⟩ : ∃ A, A = pa q J.ps.length := ⟨_, rfl⟩
  have HN := Kp.mk hN
  have HA := Kp.mk hA
  have HN32 : N ≤ 32 := by rw [hN]; exact H.out.n
  simp only [] at c2
  rw [← hA, ← hN] at c2
  rw [← hN]
  clear hN hA
  have HC2 := Kp.mk c2
  go_enter Try.func21, Try.ntmps21
  go_wp2_with fail
  go_loopw [2, 13] (fun s c wr => ∃ i : Nat, i ≤ N ∧ c = .int .i64 i ∧ s = .int .i64 (haves (J.ps.take i) : Nat) ∧ Kp (Below w.heap.size w wr)) (fun _ c _ => N - (intOf c).toNat)
  case atStart => exact ⟨0, by omega, rfl, rfl, ⟨Below.refl _ _⟩⟩
  case round =>
    obtain ⟨i, hi, rfl, rfl, HB⟩ := hrel
    by_cases hlt : i < N
    · have hlt' : (i : Int) < (N : Int) := by omega
      have hip : i < J.ps.length := by rw [← HN.out]; exact hlt
      have hAq : A = some ⟨q, 0, none⟩ := by rw [HA.out]; exact pa_some (by omega)
      subst hAq
      have HJ : Kp (JIs wr g q J) := ⟨H.out.keep HB.out⟩
      have HS : Kp (haves (J.ps.take (i + 1)) = haves (J.ps.take i) + (if J.ps[i].there then 1 else 0)) := ⟨haves_succ hip⟩
      have HL1 : haves (J.ps.take i) ≤ 32 := by
        have h1 := haves_le (J.ps.take i)
        have h2 : (J.ps.take i).length ≤ 32 := by rw [List.length_take]; omega
        omega
      obtain ⟨a, n, cap, hv, hn⟩ := (H.out.t _ (List.getElem_mem hip)).1.slice
      have HRG : Kp (wr.rangeAt q (i * 2) [.bool J.ps[i].there, .slice a n cap]) := ⟨by have := HJ.out.at hip; unfold ptc at this; rw [hv] at this; exact this⟩
      generalize haves (J.ps.take i) = s0 at HS HL1 ⊢
      generalize J.ps[i].there = th at HRG HS ⊢
      clear hv hn hip
      cases th
      · have HSn : Kp ((haves (J.ps.take (i + 1)) : Nat) = s0) := ⟨HS.out⟩
        go_wp2_with (refine wpList_load_mid rfl 94 (.tmp 15) rfl q (i * 2) rfl [.bool false, .slice a n cap] _ HRG.out Try.underlying94 rfl info94s ?_)
        refine ⟨⟨i + 1, by omega, rfl, ?_, ⟨HB.out.alloc HB.out.size _⟩⟩, ?_⟩
        · rw [HSn.out]
        · simp only [intOf]
          omega
      · have HSn : Kp ((haves (J.ps.take (i + 1)) : Nat) = s0 + 1) := ⟨HS.out⟩
        go_wp2_with (refine wpList_load_mid rfl 94 (.tmp 15) rfl q (i * 2) rfl [.bool true, .slice a n cap] _ HRG.out Try.underlying94 rfl info94s ?_)
        refine ⟨⟨i + 1, by omega, rfl, ?_, ⟨HB.out.alloc HB.out.size _⟩⟩, ?_⟩
        · rw [HSn.out]
          rfl
        · simp only [intOf]
          omega
    · have hle : (N : Int) ≤ (i : Int) := by omega
      have hee : i = N := by omega
      have HE : Kp (haves (J.ps.take i) = haves J.ps) := ⟨by rw [List.take_of_length_le (by rw [hee, HN.out]; exact Nat.le_refl _)]⟩
      rw [HE.out]
      have d2 : wr.cell? ⟨g, 2, none⟩ = some (.slice A N N) := by rw [HB.out.cell HG.out]; exact HC2.out
      go_wp2_with fail
      go_quiet (fail)
      go_wp2_with fail
      exact bodyPost_ret (results_tmp2 rfl _ _ _) rfl ⟨rfl, below_drewN HB.out _⟩
end Go.Proofs.Ytlgcpfeaecpocaa
