/-
  Plan.Waits and Plan.tell.
-/
import Derived.Test.YtfnjfoconklhiaaStE
namespace Go.Proofs.Ytfnjfoconklhiaa
open Go.RowKit

theorem waits_any (p : PS) (b : Nat) (w : World) (h : Blk w b p.obj) : Calls Try.prog 18 #[.pointer (some ⟨b, 0, none⟩)] w (RowPost (those p (fun n => n.waits) 8) w) := by
  have HT := fun w1 h1 => those_waits p b w1 h1
  have HK := Kp.mk h
  clear h
  go_enter Try.func18, Try.ntmps18
  go_wp2_with fail
  refine (HT _ HK.out).mono ?_
  rintro r w1 ⟨v, rfl, ho, hb⟩
  have K := Kp.mk (And.intro ho hb)
  clear ho hb HT
  go_wp2_with fail
  go_ret
  exact ⟨v, rfl, K.out.1, K.out.2⟩
theorem waits_nil (w : World) : Calls Try.prog 18 #[.pointer none] w fun r w' => r = .returned (.slice none 0 0) ∧ w = w' := by
  have H26 : ∀ wx : World, Calls Try.prog 26 #[.pointer none, .func (.func 29) #[] #[]] wx fun r w' => r = .returned (.slice none 0 0) ∧ wx = w' := by
    intro wx
    go_enter Try.func26, Try.ntmps26
    go_wp2_with fail
    go_ret
    exact ⟨rfl, rfl⟩
  go_enter Try.func18, Try.ntmps18
  go_wp2_with fail
  refine (H26 _).mono ?_
  rintro r w1 ⟨rfl, rfl⟩
  go_wp2_with fail
  go_ret
  exact ⟨rfl, rfl⟩
/-- A row of numbers of the call's own, as a slice. -/
theorem row_slice {w : World} {B : Nat} {v : Value} {l : List Nat} (h : w.ownsRow B 3 1 v l.length (nv l)) : ∃ a c, v = .slice a l.length c ∧ ∀ i, i < l.length → ∃ g, a = some ⟨g, 0, none⟩ ∧ w.cell? ⟨g, i, none⟩ = some (.int .i64 (l.getD i 0 : Nat)) := by
  rcases h.2 with ⟨rfl, hn⟩ | ⟨g, cap, cur, rfl, hb, hg, h1, h2, h3, h4⟩
  · exact ⟨none, 0, by rw [hn], fun i hi => by omega⟩
  · refine ⟨_, cap, rfl, fun i hi => ⟨g, rfl, ?_⟩⟩
    rw [cell_of_row w g i cur 3 (0, 0) hg]
    have h5 : (nv l)[i]? = some (.int .i64 (l.getD i 0 : Nat)) := by
      rw [List.getElem?_map, List.getD_eq_getElem?_getD, List.getElem?_eq_getElem hi]
      simp
    rw [← h4, List.getElem?_take, if_pos (by omega)] at h5
    simpa using h5
theorem row_turn {w w' : World} {B b : Nat} {v : Value} {n : Nat} {xs : List Value} {cs : Array Value} {t : TypeId} {fr : Nat × Nat} {o : Obj} (h : w.ownsRow B 3 1 v n xs) (hk : Blk w b (.cells cs t fr)) (ht : t ≠ 3) (hT : Turn b o w w') : w'.ownsRow B 3 1 v n xs := by
  refine h.kept hT.grown ?_
  cases hv : v.ownBlock with
  | none => exact .inl rfl
  | some k =>
    refine .inr fun e => ?_
    obtain ⟨cur, hc⟩ := ownsRow_type h hv
    have e' : k = b := by simpa using e
    subst e'
    rw [show w.heap[k]? = _ from hk] at hc
    injection hc with e
    injection e with _ e
    exact ht e
theorem PS.tell_nil (p : PS) : p.tell [] = p := by simp [PS.tell]
theorem PS.tell_more (p : PS) (l : List Nat) {k : Nat} (h : k < l.length) : p.tell (l.take (k + 1)) = (p.tell (l.take k)).put (l.getD k 0) ((p.tell (l.take k)).all (l.getD k 0)).tell := by
  have e : l.take (k + 1) = l.take k ++ [l.getD k 0] := by
    rw [List.take_add_one, List.getElem?_eq_getElem h, List.getD_eq_getElem?_getD, List.getElem?_eq_getElem h]
    rfl
  rw [e]
  generalize l.getD k 0 = d
  generalize l.take k = L
  unfold PS.tell PS.put
  simp only [List.mem_append, List.mem_singleton, PS.mk.injEq, true_and]
  funext i
  by_cases h1 : i = d
  · subst h1
    by_cases h2 : i ∈ L
    · simp only [h2, or_true, if_true]
      rfl
    · simp only [h2, or_true, if_true, if_false]
  · simp only [h1, or_false, if_false]
theorem tell_cells (p : PS) {d : Nat} (hd : d < 8) : ((pcs p).toArray.setIfInBounds (4 + d * 7 + 5) (.bool false)).setIfInBounds (4 + d * 7 + 6) (.bool false) = (pcs (p.put d (p.all d).tell)).toArray := by
  have e1 : (pcs p).toArray.setIfInBounds (4 + d * 7 + 5) (.bool false) = (pcs (p.put d { p.all d with waits := false })).toArray := by rw [List.setIfInBounds_toArray, pcs_set p hd (by omega) (n := { p.all d with waits := false }) rfl]
  rw [e1, List.setIfInBounds_toArray, pcs_set _ hd (by omega) (n := (p.all d).tell) (by simp [PS.put, nwc, NW.tell])]
  congr 2
  unfold PS.put
  simp only [PS.mk.injEq, true_and]
  funext i
  split <;> rfl
set_option maxRecDepth 100000 in
set_option maxHeartbeats 3200000 in
theorem tell_any (p : PS) (b B : Nat) (v : Value) (l : List Nat) (w : World) (h : Blk w b p.obj) (ho : w.ownsRow B 3 1 v l.length (nv l)) (hl : ∀ x ∈ l, x < 8) (hn : l.length ≤ 8) :
    Calls Try.prog 25 #[.pointer (some ⟨b, 0, none⟩), v] w fun r w' => r = .returned (.tuple #[]) ∧ Turn b (p.tell l).obj w w' := by
  obtain ⟨a, c, rfl, -⟩ := row_slice ho
  have HT : Kp (Turn b (p.tell (l.take 0)).obj w w) := ⟨by rw [List.take_zero, PS.tell_nil]; exact Turn.same h⟩
  have HO := Kp.mk ho
  have HL := Kp.mk hl
  obtain ⟨n, hn'⟩ : ∃ n, n = l.length := ⟨_, rfl⟩
  have HN := Kp.mk hn'
  rw [← hn'] at HO ⊢ hn
  clear h ho hl hn'
  go_enter Try.func25, Try.ntmps25
  go_wp2_with fail
  go_loopw [8] (fun ct wr => ∃ k : Nat, k ≤ n ∧ ct = .int .i64 k ∧ Kp (Turn b (p.tell (l.take k)).obj w wr) ∧ Kp (wr.ownsRow B 3 1 (.slice a n c) n (nv l))) (fun ct _ => n - (intOf ct).toNat)
  case atStart => exact ⟨0, by omega, rfl, HT, HO⟩
  case round =>
    obtain ⟨k, hk, rfl, T0, O0⟩ := hrel
    by_cases hlt : k < n
    · have hlt' : (k : Int) < (n : Int) := by omega
      have hkl : k < l.length := by have := HN.out; omega
      obtain ⟨a', c', e1, e2⟩ := row_slice (l := l) (by rw [← HN.out]; exact O0.out)
      simp only [Value.slice.injEq] at e1
      obtain ⟨rfl, -, rfl⟩ := e1
      obtain ⟨g, rfl, hc⟩ := e2 k hkl
      have hd : l.getD k 0 < 8 := by
        rw [List.getD_eq_getElem?_getD, List.getElem?_eq_getElem hkl]
        exact HL.out _ (List.getElem_mem hkl)
      have HM := Kp.mk (PS.tell_more p l hkl)
      clear hkl e2
      generalize l.getD k 0 = d at *
      have hd0 : (d : Int) < 8 := by omega
      have f5 := T0.out.blk.frozen (4 + d * 7 + 5)
      have f6 := T0.out.blk.frozen (4 + d * 7 + 6)
      have p5 : wr.cell? ⟨b, 4 + d * 7 + 5, none⟩ = some (.bool ((p.tell (l.take k)).all d).waits) := (T0.out.blk.cell _).trans (by rw [List.getElem?_toArray, pcs_at _ hd (by omega)]; rfl)
      have p6 : wr.cell? ⟨b, 4 + d * 7 + 6, none⟩ = some (.bool ((p.tell (l.take k)).all d).urgent) := (T0.out.blk.cell _).trans (by rw [List.getElem?_toArray, pcs_at _ hd (by omega)]; rfl)
      go_wp2_with fail
      go_region
      have HT2 := ((T0.out.set (4 + d * 7 + 5) (.bool false)).set (4 + d * 7 + 6) (.bool false)).drew
      rw [tell_cells _ hd, ← HM.out] at HT2
      have HO2 := Kp.mk (row_turn O0.out T0.out.blk (by decide) ((((Turn.same T0.out.blk).set (4 + d * 7 + 5) (.bool false)).set (4 + d * 7 + 6) (.bool false)).drew))
      have KT2 := Kp.mk HT2
      clear HT2 f5 f6 p5 p6 hc
      revert KT2 HO2
      generalize World.drew _ = w2
      intro HO2 KT2
      go_wp2_with fail
      exact ⟨⟨k + 1, by omega, by go_num, KT2, HO2⟩, by simp [intOf]; omega⟩
    · obtain rfl : k = n := by omega
      have HX : Kp (l.take k = l) := ⟨List.take_of_length_le (by have := HN.out; omega)⟩
      go_wp2_with fail
      refine bodyPost_end (v := .tuple #[]) (by simp [results, Try.results25, go_sem]) rfl ⟨rfl, ?_⟩
      rw [← HX.out]
      exact T0.out
end Go.Proofs.Ytfnjfoconklhiaa
