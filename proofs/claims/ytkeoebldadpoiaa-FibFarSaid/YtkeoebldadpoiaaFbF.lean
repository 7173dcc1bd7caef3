/-
  Ways: the model, and what the program's Walk answers.
-/
import Derived.Test.YtkeoebldadpoiaaFbE
namespace Go.Proofs.Ytkeoebldadpoiaa
open Go.RowKit

def walkG (T : List (List H3)) (dest : Int) : Nat → List Int → Int → List Int × Bool
  | 0, way, a => (way ++ [a], false)
  | f + 1, way, a => if inB way a = true then (way ++ [a], true) else if a = dest ∨ nextF T a dest = -1 then (way ++ [a], false) else walkG T dest f (way ++ [a]) (nextF T a dest)
theorem walkG_in {T : List (List H3)} {dest : Int} {f : Nat} {way : List Int} {a : Int} (h : inB way a = true) : walkG T dest (f + 1) way a = (way ++ [a], true) := by rw [walkG, if_pos h]
theorem walkG_end {T : List (List H3)} {dest : Int} {f : Nat} {way : List Int} {a : Int} (h : inB way a = false) (h2 : a = dest ∨ nextF T a dest = -1) : walkG T dest (f + 1) way a = (way ++ [a], false) := by
  rw [walkG, if_neg (by rw [h]; simp), if_pos h2]
theorem walkG_on {T : List (List H3)} {dest : Int} {f : Nat} {way : List Int} {a : Int} (h : inB way a = false) (h2 : ¬ (a = dest ∨ nextF T a dest = -1)) : walkG T dest (f + 1) way a = walkG T dest f (way ++ [a]) (nextF T a dest) := by
  rw [walkG, if_neg (by rw [h]; simp), if_neg h2]
/-- What stands in a way ahead of its last node. -/
structure WayInv (T : List (List H3)) (dest : Int) (way : List Int) : Prop where
  nodup : way.Nodup
  ok : ∀ x ∈ way, 0 ≤ x ∧ x < (T.length : Int) ∧ x ≠ dest
theorem WayInv.nil (T : List (List H3)) (dest : Int) : WayInv T dest [] := ⟨List.nodup_nil, fun x h => by cases h⟩
theorem holes : ∀ (n : Nat) (l : List Int), l.Nodup → (∀ x ∈ l, 0 ≤ x ∧ x < (n : Int)) → l.length ≤ n
  | 0, [], _, _ => Nat.le_refl _
  | 0, x :: t, _, h => by have := h x (by simp); omega
  | n + 1, l, hd, h => by
    have h1 : (l.erase (n : Int)).length ≤ n := holes n _ (hd.erase _) (fun x hx => by
      have hm := (hd.mem_erase_iff.1 hx)
      have := h x hm.2
      have := hm.1
      omega)
    have h2 := List.length_erase (a := (n : Int)) (l := l)
    split at h2 <;> omega
theorem WayInv.len {T : List (List H3)} {dest : Int} {way : List Int} (h : WayInv T dest way) : way.length ≤ T.length := holes _ _ h.nodup fun x hx => ⟨(h.ok x hx).1, (h.ok x hx).2.1⟩
theorem nextF_in {T : List (List H3)} {a dest : Int} (h : nextF T a dest ≠ -1) : 0 ≤ a ∧ a < (T.length : Int) := by
  by_cases h0 : 0 ≤ a ∧ a < (T.length : Int)
  · exact h0
  · exact absurd (by unfold nextF; rw [if_neg h0]) h
theorem WayInv.on {T : List (List H3)} {dest : Int} {way : List Int} {a : Int} (h : WayInv T dest way) (hn : inB way a = false) (h2 : ¬ (a = dest ∨ nextF T a dest = -1)) : WayInv T dest (way ++ [a]) := by
  have ha := nextF_in (T := T) (dest := dest) (a := a) (fun e => h2 (.inr e))
  refine ⟨?_, fun x hx => ?_⟩
  · rw [List.nodup_append]
    refine ⟨h.nodup, by simp, fun x hx y hy e => ?_⟩
    simp at hy
    subst hy
    subst e
    simp [inB] at hn
    exact hn hx
  · rcases List.mem_append.1 hx with hx | hx
    · exact h.ok x hx
    · simp at hx
      subst hx
      exact ⟨ha.1, ha.2, fun e => h2 (.inl e)⟩
abbrev ivs (l : List Int) : List Value := l.flatMap ic
theorem ivs_len (l : List Int) : (ivs l).length = l.length * 1 := by
  induction l with
  | nil => rfl
  | cons h t ih => simp only [ivs, List.flatMap_cons, List.length_append] at ih ⊢; rw [ih]; simp [ic]; omega
theorem ivs_snoc (l : List Int) (x : Int) : ivs l ++ [.int .i64 x] = ivs (l ++ [x]) := by simp [ivs, ic]
theorem ofRowI {w : World} {B : Nat} {v : Value} {l : List Int} (h : w.ownsRow B 3 1 v l.length (ivs l)) : HoldsF ic 1 w w.heap.size v l := HoldsF.ofRow (f := ic) (fun _ => rfl) h
theorem ownsRow_one {w : World} {B g : Nat} {e : TypeId} {x : Value} (hB : B ≤ g) (h : Blk w g (.cells #[x] e)) : w.ownsRow B e 1 (.slice (some ⟨g, 0, none⟩) 1 1) 1 [x] :=
  ⟨rfl, .inr ⟨g, 1, #[x], rfl, hB, h, Nat.le_refl _, by unfold maxLen; omega, rfl, rfl⟩⟩
def lenV : Value → Nat
  | .slice _ n _ => n
  | _ => 0
theorem ownsRow_lenV {w : World} {B n sz : Nat} {e : TypeId} {v : Value} {xs : List Value} (h : w.ownsRow B e sz v n xs) : lenV v = n := by
  rcases h.2 with ⟨rfl, hn⟩ | ⟨g, cap, cur, rfl, _⟩
  · exact hn.symm
  · rfl
/-- What a walk answers: a way in new memory, and whether it is looped. -/
def WayPost (R : List Int × Bool) (w : World) (r : Ending) (w' : World) : Prop := ∃ v, r = .returned (.tuple #[v, .bool R.2]) ∧ w'.ownsRow w.heap.size 3 1 v R.1.length (ivs R.1) ∧ Below w.heap.size w w'
set_option maxHeartbeats 6400000 in
theorem walk_any (T : List (List H3)) (src dest : Int) (M : Nat) (v : Value) (w : World) (hv : TabsIs w M v T) (hT : T.length ≤ 8) :
    Calls Try.prog 14 #[v, .int .i64 src, .int .i64 dest] w (WayPost (walkG T dest 9 [] src) w) := by
  have HV := Kp.mk hv
  have HT := Kp.mk hT
  clear hv hT
  obtain ⟨R, hR⟩ : ∃ R, R = walkG T dest 9 [] src := ⟨_, rfl⟩
  rw [← hR]
  have HR := Kp.mk hR
  clear hR
  obtain ⟨i0, hi0, hz0, hz1, hz2⟩ := info_parts info3'
  obtain ⟨A, hA⟩ : ∃ A, A = w.heap.size := ⟨_, rfl⟩
  have HAe := Kp.mk hA
  clear hA
  go_enter Try.func14, Try.ntmps14
  go_wp2_with fail
  go_loopw [6, 7, 8] (fun v l c wr => ∃ (way : List Int) (a : Int), l = .bool (inB way a) ∧ c = .int .i64 a ∧ Kp (WayInv T dest way) ∧ Kp (walkG T dest (9 - way.length) way a = R) ∧ Kp (wr.ownsRow A 3 1 v (way ++ [a]).length (ivs (way ++ [a]))) ∧ Kp (Below A w wr) ∧ Kp (A ≤ wr.heap.size)) (fun v _ _ _ => 10 - lenV v)
  case atStart =>
    refine ⟨[], src, rfl, rfl, ⟨WayInv.nil _ _⟩, ⟨HR.out.symm⟩, ⟨?_⟩, ⟨?_⟩, ⟨?_⟩⟩
    · exact ownsRow_one (by rw [HAe.out]; exact Nat.le_refl _) (Blk.new _ _)
    · rw [HAe.out]; exact more (Below.refl _ _) _
    · rw [HAe.out]; simp
  case round =>
    obtain ⟨way, a, rfl, rfl, HI, HG, HO, E0, Z0⟩ := hrel
    have HLEN : Kp (way.length ≤ 8) := ⟨Nat.le_trans HI.out.len HT.out⟩
    have HF : Kp (∃ f, 9 - way.length = f + 1 ∧ f = 9 - (way.length + 1)) := ⟨⟨8 - way.length, by have := HLEN.out; omega, by have := HLEN.out; omega⟩⟩
    cases hin : inB way a with
    | true =>
      have HR1 : Kp (R = (way ++ [a], true)) := ⟨by obtain ⟨f, hf, _⟩ := HF.out; rw [← HG.out, hf]; exact walkG_in hin⟩
      clear hin
      by_cases hd : a = dest
      · have hd1 : (a != dest) = false := by simp [hd]
        clear hd
        go_wp2_with fail
        go_ret2
        exact ⟨u6, by rw [HR1.out]; rfl, by rw [HR1.out, ← HAe.out]; exact HO.out, by rw [← HAe.out]; exact E0.out⟩
      · have hd1 : (a != dest) = true := by simp [hd]
        clear hd
        go_wp2_with fail
        go_ret2
        exact ⟨u6, by rw [HR1.out]; rfl, by rw [HR1.out, ← HAe.out]; exact HO.out, by rw [← HAe.out]; exact E0.out⟩
    | false =>
      by_cases hd : a = dest
      · have HR1 : Kp (R = (way ++ [a], false)) := ⟨by obtain ⟨f, hf, _⟩ := HF.out; rw [← HG.out, hf]; exact walkG_end hin (.inl hd)⟩
        have hd1 : (a != dest) = false := by simp [hd]
        clear hin hd
        go_wp2_with fail
        go_ret2
        exact ⟨u6, by rw [HR1.out]; rfl, by rw [HR1.out, ← HAe.out]; exact HO.out, by rw [← HAe.out]; exact E0.out⟩
      · have hd1 : (a != dest) = true := by simp [hd]
        have HD := Kp.mk hd
        have HIN := Kp.mk hin
        clear hin hd
        go_wp2_with fail
        refine (next_any T a dest M _ _ (HV.out.below (by rw [← HAe.out]; exact E0.out))).mono ?_
        rintro r w1 ⟨rfl, hb⟩
        have E1 : Kp (Below A w w1) := ⟨E0.out.trans (hb.mono Z0.out)⟩
        have Z1 : Kp (A ≤ w1.heap.size) := ⟨Nat.le_trans Z0.out hb.size⟩
        have HO1 := Kp.mk (ownsRow_below HO.out hb)
        clear hb HO E0 Z0
        have HON := Kp.mk (HI.out.on HIN.out)
        have HWG := Kp.mk (fun f => walkG_on (f := f) HIN.out (a := a) (T := T) (dest := dest))
        have HWE := Kp.mk (fun f => walkG_end (f := f) HIN.out (a := a) (T := T) (dest := dest))
        generalize nextF T a dest = x at HON HWG HWE
        cases hx : (x == -1) with
        | true =>
          have HR1 : Kp (R = (way ++ [a], false)) := ⟨by obtain ⟨f, hf, _⟩ := HF.out; rw [← HG.out, hf]; exact HWE.out f (.inr (by simpa using hx))⟩
          go_wp2_with fail
          go_ret2
          exact ⟨u6, by rw [HR1.out]; rfl, by rw [HR1.out, ← HAe.out]; exact HO1.out, by rw [← HAe.out]; exact E1.out⟩
        | false =>
          have HNX : Kp (¬ (a = dest ∨ x = -1)) := ⟨by rintro (h | h); exact HD.out h; simp [h] at hx⟩
          have HI2 := Kp.mk (HON.out HNX.out)
          have HG2 : Kp (walkG T dest (9 - (way ++ [a]).length) (way ++ [a]) x = R) := ⟨by obtain ⟨f, hf, hf2⟩ := HF.out; rw [List.length_append, List.length_singleton, ← hf2, ← HWG.out f HNX.out, ← hf]; exact HG.out⟩
          clear HON HWG HWE
          go_wp2_with fail
          refine (contains_any _ x _ _ _ (ofRowI HO1.out)).mono ?_
          rintro r w2 ⟨rfl, rfl⟩
          obtain ⟨way2, hw2⟩ : ∃ way2, way2 = way ++ [a] := ⟨_, rfl⟩
          rw [← hw2] at HI2 HG2 HO1 ⊢
          have HW2 := Kp.mk hw2
          have HL2 : Kp (way2.length = way.length + 1) := ⟨by rw [hw2]; simp⟩
          clear hw2
          go_wp2_with (at_builtin; refine wpList_append_own _ rfl _ _ 39 rfl A 3 i0 (.int .i64 0) 1 8 Try.underlying39 hi0 hz0 hz1 hz2 rfl (by decide) _ way2.length (ivs way2) rfl (HO1.out.alloc _) ⟨w1.heap.size, 0, none⟩ 1 1 [.int .i64 x] rfl rfl ?c1 ?c2 ?c3 ?c4 ?c5 ?_)
          case c1 =>
            intro j u hj
            match j, hj with
            | 0, hj => simp at hj; subst hj; simp [Addr.add]
          case c2 =>
            intro u hu
            simp at hu
            subst hu
            rfl
          case c3 => have := HL2.out; have := HLEN.out; unfold maxLen; omega
          case c4 => have := HL2.out; have := HLEN.out; omega
          case c5 => have := Z1.out; simp; omega
          · intro v' w3 hown' hgrow _
            have E3 : Kp (Below A w w3) := ⟨below_row_grown (E1.out.alloc Z1.out _) (by have := Z1.out; simp; omega) (HO1.out.alloc _) hgrow⟩
            have Z3 : Kp (A ≤ w3.heap.size) := ⟨by have h8 := hgrow.size; have := Z1.out; simp at h8; omega⟩
            have HO3 : Kp (w3.ownsRow A 3 1 v' (way2 ++ [x]).length (ivs (way2 ++ [x]))) := ⟨by rw [← ivs_snoc, List.length_append]; exact hown'⟩
            have HM : Kp (lenV v' = way2.length + 1 ∧ lenV u6 = way2.length) := ⟨ownsRow_lenV hown', ownsRow_lenV HO1.out⟩
            clear hown' hgrow
            go_wp2_with fail
            exact ⟨⟨way2, x, rfl, rfl, HI2, HG2, HO3, E3, Z3⟩, by have := HM.out; have := HL2.out; have := HLEN.out; omega⟩
end Go.Proofs.Ytkeoebldadpoiaa
