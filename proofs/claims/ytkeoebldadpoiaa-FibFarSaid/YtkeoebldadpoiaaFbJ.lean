/-
  Rows of rows of the call's own; all ways that are looped.
-/
import Derived.Test.YtkeoebldadpoiaaFbH
namespace Go.Proofs.Ytkeoebldadpoiaa
open Go.RowKit

theorem info26' : (Try.prog.info? 26).map (fun i => (i.zero, i.size, i.bytes)) = some (some (.slice none 0 0), 1, 24) := by kernel_rfl
theorem info39' : (Try.prog.info? 39).map (fun i => (i.zero, i.size, i.bytes)) = some (some (.slice none 0 0), 1, 24) := by kernel_rfl
theorem ownsRow_type {w : World} {B e sz n g : Nat} {v : Value} {xs : List Value} (h : w.ownsRow B e sz v n xs) (hg : v.ownBlock = some g) : ∃ cur, w.heap[g]? = some (.cells cur e (0, 0)) := by
  rcases h.2 with ⟨rfl, hn⟩ | ⟨g', cap, cur, rfl, hb, hg', h1, h2, h3, h4⟩
  · cases hg
  · cases hg
    exact ⟨_, hg'⟩
theorem ownsRow_ne {w : World} {B1 e1 s1 n1 B2 e2 s2 n2 : Nat} {v1 v2 : Value} {x1 x2 : List Value} (h1 : w.ownsRow B1 e1 s1 v1 n1 x1) (h2 : w.ownsRow B2 e2 s2 v2 n2 x2) (hne : e1 ≠ e2) : v1.ownBlock = none ∨ v1.ownBlock ≠ v2.ownBlock := by
  cases hv : v1.ownBlock with
  | none => exact .inl rfl
  | some g =>
    refine .inr fun e => ?_
    obtain ⟨c1, hc1⟩ := ownsRow_type h1 hv
    obtain ⟨c2, hc2⟩ := ownsRow_type h2 e.symm
    rw [hc1] at hc2
    injection hc2 with e3
    injection e3 with _ e4
    exact hne e4
def RowsOf {α : Type} (f : α → List Value) (k eo ei : Nat) (w : World) (A : Nat) (v : Value) (ls : List (List α)) : Prop :=
  ∃ vs : List Value, vs.length = ls.length ∧ w.ownsRow A eo 1 v ls.length vs ∧ ∀ i, i < ls.length → w.ownsRow A ei k (vs.getD i default) (ls.getD i default).length ((ls.getD i default).flatMap f)
theorem RowsOf.nil {α : Type} (f : α → List Value) (k eo ei : Nat) (w : World) (A : Nat) : RowsOf f k eo ei w A (.slice none 0 0) [] := ⟨[], rfl, World.ownsRow_nil _ _ _ _, fun i hi => absurd hi (by simp)⟩
theorem RowsOf.below {α : Type} {f : α → List Value} {k eo ei : Nat} {w w' : World} {A : Nat} {v : Value} {ls : List (List α)} (h : RowsOf f k eo ei w A v ls) (hb : Below w.heap.size w w') : RowsOf f k eo ei w' A v ls := by
  obtain ⟨vs, h1, h2, h3⟩ := h
  exact ⟨vs, h1, ownsRow_below h2 hb, fun i hi => ownsRow_below (h3 i hi) hb⟩
theorem getD_snoc {α : Type} [Inhabited α] (l : List α) (x : α) (i : Nat) : (l ++ [x]).getD i default = if i < l.length then l.getD i default else if i = l.length then x else default := by
  simp only [List.getD_eq_getElem?_getD]
  by_cases h : i < l.length
  · rw [if_pos h, List.getElem?_append_left h]
  · rw [if_neg h, List.getElem?_append_right (by omega)]
    by_cases h2 : i = l.length
    · subst h2; simp
    · rw [if_neg h2, List.getElem?_eq_none (by simp; omega)]; rfl
theorem RowsOf.push {α : Type} {f : α → List Value} {k eo ei : Nat} {w w3 : World} {A : Nat} {v v' x : Value} {ls : List (List α)} {vs : List Value} {l : List α} (hl : vs.length = ls.length) (ho : w.ownsRow A eo 1 v ls.length vs)
    (hi : ∀ i, i < ls.length → w.ownsRow A ei k (vs.getD i default) (ls.getD i default).length ((ls.getD i default).flatMap f)) (hx : w.ownsRow A ei k x l.length (l.flatMap f)) (hne : ei ≠ eo)
    (hown : w3.ownsRow A eo 1 v' (ls.length + 1) (vs ++ [x])) (hg : w.grownBy w3 v.ownBlock) : RowsOf f k eo ei w3 A v' (ls ++ [l]) := by
  refine ⟨vs ++ [x], by simp [hl], by rw [List.length_append]; exact hown, fun i hi2 => ?_⟩
  have h1 : ∀ {y n xs}, w.ownsRow A ei k y n xs → w3.ownsRow A ei k y n xs := fun h => h.kept hg (ownsRow_ne h ho hne)
  rw [getD_snoc, getD_snoc, hl]
  by_cases h : i < ls.length
  · rw [if_pos h, if_pos h]; exact h1 (hi i h)
  · have e : i = ls.length := by simp at hi2; omega
    rw [if_neg h, if_neg h, if_pos e, if_pos e]; exact h1 hx
theorem vc_flat (vs : List Value) : vs.flatMap vc = vs := by induction vs with | nil => rfl | cons x t ih => rw [List.flatMap_cons, ih]; rfl
theorem RowsOf.tabs {eo ei : Nat} {w : World} {A : Nat} {v : Value} {T : List (List H3)} (h : RowsOf hc 3 eo ei w A v T) : TabsIs w w.heap.size v T := by
  obtain ⟨vs, h1, h2, h3⟩ := h
  refine ⟨vs, h1, HoldsF.ofRow (f := vc) (fun _ => rfl) (by rw [h1]; rw [vc_flat]; exact h2), fun i hi => HoldsF.ofRow (f := hc) (fun _ => rfl) (h3 i hi)⟩
def loopsL (T : List (List H3)) (dest : Int) : Nat → List (List Int)
  | 0 => []
  | k + 1 => if (walkG T dest 9 [] k).2 = true then loopsL T dest k ++ [(walkG T dest 9 [] k).1] else loopsL T dest k
theorem loopsL_yes {T : List (List H3)} {dest : Int} {k : Nat} (h : (walkG T dest 9 [] k).2 = true) : loopsL T dest (k + 1) = loopsL T dest k ++ [(walkG T dest 9 [] k).1] := by rw [loopsL, if_pos h]
theorem loopsL_no {T : List (List H3)} {dest : Int} {k : Nat} (h : (walkG T dest 9 [] k).2 = false) : loopsL T dest (k + 1) = loopsL T dest k := by rw [loopsL, if_neg (by rw [h]; simp)]
theorem loopsL_len (T : List (List H3)) (dest : Int) : ∀ k, (loopsL T dest k).length ≤ k
  | 0 => Nat.le_refl _
  | k + 1 => by
    have := loopsL_len T dest k
    unfold loopsL
    split
    · simp; omega
    · omega
def LoopsPost (ls : List (List Int)) (w : World) (r : Ending) (w' : World) : Prop := ∃ v, r = .returned v ∧ RowsOf ic 1 39 3 w' w.heap.size v ls ∧ Below w.heap.size w w'
set_option maxHeartbeats 6400000 in
theorem loops_any (T : List (List H3)) (dest : Int) (M : Nat) (v : Value) (w : World) (hv : TabsIs w M v T) (hT : T.length ≤ 8) :
    Calls Try.prog 17 #[v, .int .i64 dest] w (LoopsPost (loopsL T dest T.length) w) := by
  obtain ⟨⟨pt, cp, rfl⟩, hlen⟩ := hv.shape
  have HV := Kp.mk hv
  have HT := Kp.mk hT
  clear hv hlen
  obtain ⟨n, hn⟩ : ∃ n, n = T.length := ⟨_, rfl⟩
  rw [← hn] at HV hT ⊢
  have HN := Kp.mk hn
  clear hn
  obtain ⟨i0, hi0, hz0, hz1, hz2⟩ := info_parts info39'
  obtain ⟨A, hA⟩ : ∃ A, A = w.heap.size := ⟨_, rfl⟩
  have HAe := Kp.mk hA
  clear hA
  go_enter Try.func17, Try.ntmps17
  go_wp2_with fail
  go_loopw [5, 11] (fun v c wr => ∃ i : Nat, i ≤ n ∧ c = .int .i64 i ∧ Kp (RowsOf ic 1 39 3 wr A v (loopsL T dest i)) ∧ Kp (Below A w wr) ∧ Kp (A ≤ wr.heap.size)) (fun _ c _ => n - (intOf c).toNat)
  case atStart => exact ⟨0, by omega, rfl, ⟨RowsOf.nil _ _ _ _ _ _⟩, ⟨by rw [HAe.out]; exact Below.refl _ _⟩, ⟨by rw [HAe.out]; exact Nat.le_refl _⟩⟩
  case round =>
    obtain ⟨i, hi, rfl, HO, E0, Z0⟩ := hrel
    by_cases hlt : i < n
    · have t1 : (i : Int) < n := by omega
      have HLT := Kp.mk hlt
      clear hlt
      go_wp2_with fail
      refine (walk_any T i dest M _ _ (HV.out.below (by rw [← HAe.out]; exact E0.out)) HT.out).mono ?_
      have HY := Kp.mk (loopsL_yes (T := T) (dest := dest) (k := i))
      have HX := Kp.mk (loopsL_no (T := T) (dest := dest) (k := i))
      have HLL := Kp.mk (loopsL_len T dest i)
      generalize walkG T dest 9 [] i = R at HY HX ⊢
      generalize loopsL T dest i = D at HY HX HO HLL
      obtain ⟨way, lp⟩ := R
      rintro r w1 ⟨y, rfl, hy, hb⟩
      have E1 : Kp (Below A w w1) := ⟨E0.out.trans (hb.mono Z0.out)⟩
      have Z1 : Kp (A ≤ w1.heap.size) := ⟨Nat.le_trans Z0.out hb.size⟩
      have HO1 := Kp.mk (HO.out.below hb)
      have HW := Kp.mk (ownsRow_base hy Z0.out)
      clear hb hy HO E0 Z0
      cases lp with
      | false =>
        go_wp2_with fail
        exact ⟨⟨i + 1, by have := HLT.out; omega, by go_num, ⟨by rw [HX.out (by simp)]; exact HO1.out⟩, E1, Z1⟩, by have := HLT.out; simp [intOf]; omega⟩
      | true =>
        obtain ⟨ya, yc, rfl⟩ := (ofRowI HW.out).shape
        obtain ⟨yn, hyn⟩ : ∃ yn, yn = way.length := ⟨_, rfl⟩
        have HYN := Kp.mk hyn
        rw [← hyn] at HW ⊢
        clear hyn
        obtain ⟨vs, hvl, hov, hin⟩ := HO1.out
        have HVS := Kp.mk (And.intro hvl (And.intro hov hin))
        obtain ⟨k, hk⟩ : ∃ k, k = D.length := ⟨_, rfl⟩
        have HK := Kp.mk hk
        rw [← hk] at HVS
        clear hvl hov hin hk
        go_wp2_with (at_builtin; refine wpList_append_own _ rfl _ _ 44 rfl A 39 i0 (.slice none 0 0) 1 24 Try.underlying44 hi0 hz0 hz1 hz2 rfl (by decide) _ k vs rfl (HVS.out.2.1.alloc _) ⟨w1.heap.size, 0, none⟩ 1 1 [.slice ya yn yc] rfl rfl ?c1 ?c2 ?c3 ?c4 ?c5 ?_)
        case c1 =>
          intro j u hj
          match j, hj with
          | 0, hj => simp at hj; subst hj; simp [Addr.add]
        case c2 =>
          intro u hu
          simp at hu
          subst hu
          rfl
        case c3 => have := HLL.out; have := HK.out; have := HLT.out; unfold maxLen; omega
        case c4 => have := HLL.out; have := HK.out; have := HLT.out; omega
        case c5 => have := Z1.out; simp; omega
        · intro v' w3 hown' hgrow _
          have E3 : Kp (Below A w w3) := ⟨below_row_grown (E1.out.alloc Z1.out _) (by have := Z1.out; simp; omega) (HVS.out.2.1.alloc _) hgrow⟩
          have Z3 : Kp (A ≤ w3.heap.size) := ⟨by have h8 := hgrow.size; have := Z1.out; simp at h8; omega⟩
          have HO3 : Kp (RowsOf ic 1 39 3 w3 A v' (loopsL T dest (i + 1))) := ⟨by
            rw [HY.out (by simp)]
            refine RowsOf.push (w := w1.alloc (.cells #[.slice ya yn yc] 39)) (vs := vs) (x := .slice ya yn yc) (by rw [HVS.out.1, HK.out]) (by rw [← HK.out]; exact HVS.out.2.1.alloc _) (fun i hi => (HVS.out.2.2 i (by rw [HK.out]; exact hi)).alloc _) (by rw [← HYN.out]; exact HW.out.alloc _) (by decide) (by rw [← HK.out]; exact hown') hgrow⟩
          clear hown' hgrow
          go_wp2_with fail
          exact ⟨⟨i + 1, by have := HLT.out; omega, by go_num, HO3, E3, Z3⟩, by have := HLT.out; simp [intOf]; omega⟩
    · obtain rfl : i = n := by omega
      go_wp2_with fail
      go_ret
      exact ⟨_, rfl, by rw [← HAe.out]; exact HO.out, by rw [← HAe.out]; exact E0.out⟩
end Go.Proofs.Ytkeoebldadpoiaa
