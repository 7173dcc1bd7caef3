/-
  To: a table of hops, laid anew.
-/
import Derived.Test.YtkeoebldadpoiaaFbB
namespace Go.Proofs.Ytkeoebldadpoiaa
open Go.RowKit

theorem info_parts {e : TypeId} {z : Value} {n b : Nat} (h : (Try.prog.info? e).map (fun i => (i.zero, i.size, i.bytes)) = some (some z, n, b)) : ∃ i, Try.prog.info? e = some i ∧ i.zero = some z ∧ i.size = n ∧ i.bytes = b := by
  cases hq : Try.prog.info? e with
  | none => simp [hq] at h
  | some i => simp [hq] at h; exact ⟨i, rfl, h.1, h.2.1, h.2.2⟩
theorem info54' : (Try.prog.info? 54).map (fun i => (i.zero, i.size, i.bytes)) = some (some (.agg #[.int .i64 0, .int .i64 0, .int .i64 0]), 3, 24) := by kernel_rfl
theorem info34' : (Try.prog.info? 34).map (fun i => (i.zero, i.size, i.bytes)) = some (some (.agg #[.int .i64 0, .int .i64 0, .int .i64 0]), 3, 24) := by kernel_rfl
theorem info35' : (Try.prog.info? 35).map (fun i => (i.zero, i.size, i.bytes)) = some (some (.agg #[.int .i64 0, .int .i64 0, .int .i64 0]), 3, 24) := by kernel_rfl
theorem info3' : (Try.prog.info? 3).map (fun i => (i.zero, i.size, i.bytes)) = some (some (.int .i64 0), 1, 8) := by kernel_rfl
abbrev hcs (l : List H3) : List Value := l.flatMap hc
theorem hcs_len (l : List H3) : (hcs l).length = l.length * 3 := by
  induction l with
  | nil => rfl
  | cons h t ih => simp only [hcs, List.flatMap_cons, List.length_append] at ih ⊢; rw [ih]; simp [hc]; omega
theorem hcs_snoc (l : List H3) (h : H3) : hcs l ++ [.int .i64 h.d, .int .i64 h.n, .int .i64 h.m] = hcs (l ++ [h]) := by simp [hcs, hc]
/-- A row of the call's own, of elements of k cells each. -/
theorem HoldsF.ofRow {α : Type} {f : α → List Value} {k : Nat} (hf : ∀ x, (f x).length = k) {w : World} {base : Nat} {e : TypeId} {v : Value} {l : List α} (h : w.ownsRow base e k v l.length (l.flatMap f)) : HoldsF f k w w.heap.size v l := by
  rcases h.2 with ⟨rfl, hn⟩ | ⟨g, cap, cur, rfl, hb, hg, h1, h2, h3, h4⟩
  · have hl := List.length_eq_zero_iff.1 hn
    subst hl
    exact HoldsF.nil f k w _
  · have hlt := (Array.getElem?_eq_some_iff.1 hg).1
    refine ⟨_, cap, rfl, h1, h2, fun i hi => ⟨g, 0, rfl, hlt, hlt, fun j v hv => ?_⟩⟩
    rw [cell_of_row w g (0 + i * k + j) cur e (0, 0) hg, Nat.zero_add]
    have hj : j < k := by rw [← hf l[i]]; exact (List.getElem?_eq_some_iff.1 hv).1
    have key : ∀ (l : List α) (i : Nat) (hi : i < l.length), (l.flatMap f)[i * k + j]? = (f l[i])[j]? := by
      intro l
      induction l with
      | nil => intro i hi; exact absurd hi (by simp)
      | cons x t ih =>
        intro i hi
        cases i with
        | zero => rw [List.flatMap_cons, List.getElem?_append_left (by rw [hf]; omega)]; simp
        | succ i =>
          have e1 : (i + 1) * k + j - k = i * k + j := by rw [Nat.succ_mul]; omega
          rw [List.flatMap_cons, List.getElem?_append_right (by rw [hf, Nat.succ_mul]; omega), hf, e1, ih i (by simpa using hi)]
          rfl
    have e2 := key l i hi
    rw [← h4, List.getElem?_take, hv] at e2
    split at e2
    · rw [Array.getElem?_toList] at e2; exact e2
    · cases e2
def RowPost (e : TypeId) (l : List H3) (w : World) (r : Ending) (w' : World) : Prop := ∃ v, r = .returned v ∧ w'.ownsRow w.heap.size e 3 v l.length (hcs l) ∧ Below w.heap.size w w'
theorem take_snocG {α : Type} [Inhabited α] (l : List α) {i : Nat} (hi : i < l.length) : l.take (i + 1) = l.take i ++ [l.getD i default] := by
  rw [List.take_succ_eq_append_getElem hi, gd hi]
set_option maxHeartbeats 3200000 in
theorem to_any (l : List H3) (M : Nat) (v : Value) (w : World) (hv : HoldsF hc 3 w M v l) (hs : l.length * 24 ≤ 140737488351232) :
    Calls Try.prog 9 #[v] w (RowPost 54 l w) := by
  obtain ⟨a, cap, rfl⟩ := hv.shape
  have HV := Kp.mk hv
  have HS := Kp.mk hs
  clear hv hs
  obtain ⟨i0, hi0, hz0, hz1, hz2⟩ := info_parts info54'
  obtain ⟨n, hn⟩ : ∃ n, n = l.length := ⟨_, rfl⟩
  rw [← hn] at HV HS ⊢
  have HN := Kp.mk hn
  have hnm : n ≤ 9223372036854775807 := by have := HS.out; omega
  clear hn
  obtain ⟨A, hA⟩ : ∃ A, A = w.heap.size := ⟨_, rfl⟩
  have HAe := Kp.mk hA
  clear hA
  go_enter Try.func9, Try.ntmps9
  go_wp2_with fail
  go_loopw [3, 8] (fun v c wr => ∃ i : Nat, i ≤ n ∧ c = .int .i64 i ∧ Kp (wr.ownsRow A 54 3 v i (hcs (l.take i))) ∧ Kp (Below A w wr) ∧ Kp (A ≤ wr.heap.size)) (fun _ c _ => n - (intOf c).toNat)
  case atStart => exact ⟨0, by omega, rfl, ⟨World.ownsRow_nil _ _ _ _⟩, ⟨by rw [HAe.out]; exact Below.refl _ _⟩, ⟨by rw [HAe.out]; exact Nat.le_refl _⟩⟩
  case round =>
    obtain ⟨i, hi, rfl, HO, E0, Z0⟩ := hrel
    by_cases hlt : i < n
    · obtain ⟨b, off, rfl, hbs, hbM, h0, h1, h2⟩ := HV.out.hop (i := i) (by rw [← HN.out]; exact hlt)
      have HLT := Kp.mk hlt
      have d0 := (E0.out.cell (p := ⟨b, off + i * 3, none⟩) (by rw [HAe.out]; exact hbs)).trans h0
      have d1 := (E0.out.cell (p := ⟨b, off + i * 3 + 1, none⟩) (by rw [HAe.out]; exact hbs)).trans h1
      have d2 := (E0.out.cell (p := ⟨b, off + i * 3 + 2, none⟩) (by rw [HAe.out]; exact hbs)).trans h2
      have HT := Kp.mk (take_snocG l (i := i) (by rw [← HN.out]; exact hlt))
      clear h0 h1 h2 hbs hbM
      generalize l.getD i default = h at d0 d1 d2 HT
      have t1 : (i : Int) < n := by omega
      go_wp2_with (at_builtin; refine wpList_append_own _ rfl _ _ 26 rfl A 54 i0 (.agg #[.int .i64 0, .int .i64 0, .int .i64 0]) 3 24 Try.underlying26 hi0 hz0 hz1 hz2 rfl (by decide) _ i (hcs (l.take i)) rfl ((HO.out.alloc _).alloc _) ⟨wr.heap.size + 1, 0, none⟩ 1 1 [.int .i64 h.d, .int .i64 h.n, .int .i64 h.m] rfl rfl ?c1 ?c2 ?c3 ?c4 ?c5 ?_)
      case c1 =>
        intro j u hj
        match j, hj with
        | 0, hj => simp at hj; subst hj; simp [Addr.add]
        | 1, hj => simp at hj; subst hj; simp [Addr.add]
        | 2, hj => simp at hj; subst hj; simp [Addr.add]
      case c2 =>
        intro u hu
        simp at hu
        rcases hu with rfl | rfl | rfl <;> rfl
      case c3 => have := HS.out; unfold maxLen; omega
      case c4 => have := HS.out; omega
      case c5 => have := Z0.out; simp; omega
      · intro v' w3 hown' hgrow _
        have E3 : Kp (Below A w w3) := ⟨below_row_grown ((E0.out.alloc Z0.out _).alloc (by have := Z0.out; simp; omega) _) (by have := Z0.out; simp; omega) ((HO.out.alloc _).alloc _) hgrow⟩
        have Z3 : Kp (A ≤ w3.heap.size) := ⟨by have h8 := hgrow.size; have := Z0.out; simp at h8; omega⟩
        have HO3 : Kp (w3.ownsRow A 54 3 v' (i + 1) (hcs (l.take (i + 1)))) := ⟨by rw [HT.out, ← hcs_snoc]; exact hown'⟩
        clear hown' hgrow
        go_wp2_with fail
        exact ⟨⟨i + 1, by have := HLT.out; omega, by go_num, HO3, E3, Z3⟩, by have := HLT.out; simp [intOf]; omega⟩
    · obtain rfl : i = n := by omega
      go_wp2_with fail
      go_ret
      exact ⟨_, rfl, by rw [← HAe.out, ← HN.out]; rw [List.take_of_length_le (by rw [← HN.out]; exact Nat.le_refl _)] at HO; exact HO.out, by rw [← HAe.out]; exact E0.out⟩
end Go.Proofs.Ytkeoebldadpoiaa
