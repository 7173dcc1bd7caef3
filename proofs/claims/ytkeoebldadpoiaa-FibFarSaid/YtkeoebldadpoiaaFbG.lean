/-
  Ways: what the document's Walk answers; the example.
-/
import Derived.Test.YtkeoebldadpoiaaFbF
namespace Go.Proofs.Ytkeoebldadpoiaa
open Go.RowKit

/-- Tables whose hops lead to nodes. -/
def OkT (T : List (List H3)) : Prop := ∀ l ∈ T, ∀ h ∈ l, 0 ≤ h.n ∧ h.n < 8
theorem look_ok {l : List H3} (h : ∀ x ∈ l, 0 ≤ x.n ∧ x.n < 8) (dest : Int) : lookF l dest = -1 ∨ (0 ≤ lookF l dest ∧ lookF l dest < 8) := by
  unfold lookF
  cases hf : l.find? (fun h => h.d == dest) with
  | none => exact .inl rfl
  | some x => exact .inr (h x (List.mem_of_find?_eq_some hf))
theorem OkT.at {T : List (List H3)} (h : OkT T) {i : Nat} (hi : i < T.length) (dest : Int) : lookF (T.getD i default) dest = -1 ∨ (0 ≤ lookF (T.getD i default) dest ∧ lookF (T.getD i default) dest < 8) := by
  rw [← gd hi]
  exact look_ok (h _ (List.getElem_mem hi)) dest
set_option maxHeartbeats 6400000 in
theorem rwalk_any (T : List (List H3)) (src dest : Int) (M : Nat) (v : Value) (w : World) (hv : TabsIs w M v T) (hT : T.length ≤ 8) (hok : OkT T) :
    Calls Try.prog 15 #[v, .int .i64 src, .int .i64 dest] w (WayPost (walkG T dest 9 [] src) w) := by
  obtain ⟨⟨pt, cp, rfl⟩, hlen⟩ := hv.shape
  have HV := Kp.mk hv
  have HT := Kp.mk hT
  have HOK := Kp.mk hok
  clear hv hlen hok
  obtain ⟨n, hn⟩ : ∃ n, n = T.length := ⟨_, rfl⟩
  rw [← hn] at HV hT ⊢
  have HN := Kp.mk hn
  clear hn
  obtain ⟨R, hR⟩ : ∃ R, R = walkG T dest 9 [] src := ⟨_, rfl⟩
  rw [← hR]
  have HR := Kp.mk hR
  clear hR
  obtain ⟨i0, hi0, hz0, hz1, hz2⟩ := info_parts info3'
  obtain ⟨A, hA⟩ : ∃ A, A = w.heap.size := ⟨_, rfl⟩
  have HAe := Kp.mk hA
  clear hA
  go_enter Try.func15, Try.ntmps15
  go_wp2_with fail
  go_loopw [8, 9] (fun v c wr => ∃ (way : List Int) (a : Int), c = .int .i64 a ∧ Kp (WayInv T dest way) ∧ Kp (walkG T dest (9 - way.length) way a = R) ∧ Kp (wr.ownsRow A 3 1 v way.length (ivs way)) ∧ Kp (Below A w wr) ∧ Kp (A ≤ wr.heap.size)) (fun v _ _ => 10 - lenV v)
  case atStart => exact ⟨[], src, rfl, ⟨WayInv.nil _ _⟩, ⟨HR.out.symm⟩, ⟨World.ownsRow_nil _ _ _ _⟩, ⟨by rw [HAe.out]; exact Below.refl _ _⟩, ⟨by rw [HAe.out]; exact Nat.le_refl _⟩⟩
  case round =>
    obtain ⟨way, a, rfl, HI, HG, HO, E0, Z0⟩ := hrel
    have HLEN : Kp (way.length ≤ 8) := ⟨Nat.le_trans HI.out.len HT.out⟩
    have HF : Kp (∃ f, 9 - way.length = f + 1 ∧ f = 9 - (way.length + 1)) := ⟨⟨8 - way.length, by have := HLEN.out; omega, by have := HLEN.out; omega⟩⟩
    obtain ⟨pw, cw, rfl⟩ := (ofRowI HO.out).shape
    obtain ⟨k, hk⟩ : ∃ k, k = way.length := ⟨_, rfl⟩
    have hk8 : k ≤ 8 := by rw [hk]; exact HLEN.out
    have HK := Kp.mk hk
    rw [← hk] at HO ⊢
    clear hk
    have hk9 : (k : Int) < 100 := by omega
    go_wp2_with fail
    refine (in_any way a _ _ _ (by rw [HK.out] at HO ⊢; exact ofRowI HO.out)).mono ?_
    rintro r w1 ⟨rfl, rfl⟩
    have HLV : Kp (lenV (.slice pw (k : Int).toNat cw) = k) := ⟨rfl⟩
    cases hin : inB way a with
    | true =>
      have HR1 : Kp (R = (way ++ [a], true)) := ⟨by obtain ⟨f, hf, _⟩ := HF.out; rw [← HG.out, hf]; exact walkG_in hin⟩
      clear hin
      go_wp2_with (at_builtin; refine wpList_append_own _ rfl _ _ 39 rfl A 3 i0 (.int .i64 0) 1 8 Try.underlying39 hi0 hz0 hz1 hz2 rfl (by decide) _ k (ivs way) rfl (HO.out.alloc _) ⟨wr.heap.size, 0, none⟩ 1 1 [.int .i64 a] rfl rfl ?c1 ?c2 ?c3 ?c4 ?c5 ?_)
      case c1 =>
        intro j u hj
        match j, hj with
        | 0, hj => simp at hj; subst hj; simp [Addr.add]
      case c2 =>
        intro u hu
        simp at hu
        subst hu
        rfl
      case c3 => unfold maxLen; omega
      case c4 => omega
      case c5 => have := Z0.out; simp; omega
      · intro v' w3 hown' hgrow _
        have E3 : Kp (Below A w w3) := ⟨below_row_grown (E0.out.alloc Z0.out _) (by have := Z0.out; simp; omega) (HO.out.alloc _) hgrow⟩
        have HO3 : Kp (w3.ownsRow A 3 1 v' (way ++ [a]).length (ivs (way ++ [a]))) := ⟨by rw [← ivs_snoc, List.length_append, ← HK.out]; exact hown'⟩
        clear hown' hgrow
        go_wp2_with fail
        go_ret2
        exact ⟨v', by rw [HR1.out]; rfl, by rw [HR1.out, ← HAe.out]; exact HO3.out, by rw [← HAe.out]; exact E3.out⟩
    | false =>
      have HIN := Kp.mk hin
      clear hin
      go_wp2_with (at_builtin; refine wpList_append_own _ rfl _ _ 39 rfl A 3 i0 (.int .i64 0) 1 8 Try.underlying39 hi0 hz0 hz1 hz2 rfl (by decide) _ k (ivs way) rfl (HO.out.alloc _) ⟨wr.heap.size, 0, none⟩ 1 1 [.int .i64 a] rfl rfl ?c1 ?c2 ?c3 ?c4 ?c5 ?_)
      case c1 =>
        intro j u hj
        match j, hj with
        | 0, hj => simp at hj; subst hj; simp [Addr.add]
      case c2 =>
        intro u hu
        simp at hu
        subst hu
        rfl
      case c3 => unfold maxLen; omega
      case c4 => omega
      case c5 => have := Z0.out; simp; omega
      · intro v' w3 hown' hgrow _
        have E3 : Kp (Below A w w3) := ⟨below_row_grown (E0.out.alloc Z0.out _) (by have := Z0.out; simp; omega) (HO.out.alloc _) hgrow⟩
        have Z3 : Kp (A ≤ w3.heap.size) := ⟨by have h8 := hgrow.size; have := Z0.out; simp at h8; omega⟩
        have HO3 : Kp (w3.ownsRow A 3 1 v' (way ++ [a]).length (ivs (way ++ [a]))) := ⟨by rw [← ivs_snoc, List.length_append, ← HK.out]; exact hown'⟩
        have HM : Kp (lenV v' = k + 1) := ⟨ownsRow_lenV hown'⟩
        have V3 : Kp (TabsIs w3 M (.slice pt n cp) T) := ⟨HV.out.below (by rw [← HAe.out]; exact E3.out)⟩
        clear hown' hgrow HO E0 Z0
        by_cases hd : a = dest
        · have HR1 : Kp (R = (way ++ [a], false)) := ⟨by obtain ⟨f, hf, _⟩ := HF.out; rw [← HG.out, hf]; exact walkG_end HIN.out (.inl hd)⟩
          have hd1 : (a == dest) = true := by simp [hd]
          clear hd
          go_wp2_with fail
          go_ret2
          exact ⟨v', by rw [HR1.out]; rfl, by rw [HR1.out, ← HAe.out]; exact HO3.out, by rw [← HAe.out]; exact E3.out⟩
        · have hd1 : (a == dest) = false := by simp [hd]
          have HD := Kp.mk hd
          clear hd
          by_cases h0 : a < 0
          · have HR1 : Kp (R = (way ++ [a], false)) := ⟨by obtain ⟨f, hf, _⟩ := HF.out; rw [← HG.out, hf]; exact walkG_end HIN.out (.inr (by unfold nextF; rw [if_neg (by omega)]))⟩
            go_wp2_with fail
            go_ret2
            exact ⟨v', by rw [HR1.out]; rfl, by rw [HR1.out, ← HAe.out]; exact HO3.out, by rw [← HAe.out]; exact E3.out⟩
          · obtain ⟨j, rfl⟩ : ∃ j : Nat, a = j := ⟨a.toNat, by omega⟩
            clear h0
            have h0 : ¬ ((j : Int) < 0) := by omega
            by_cases h1 : j < n
            · have h1' : (j : Int) < (n : Int) := by omega
              have HJ : Kp (j < T.length) := ⟨by rw [← HN.out]; exact h1⟩
              have HNX : Kp (nextF T j dest = lookF (T.getD j default) dest) := ⟨by unfold nextF; rw [if_pos ⟨by omega, by have := HJ.out; omega⟩]; rfl⟩
              have HLO := Kp.mk (HOK.out.at HJ.out dest)
              obtain ⟨tb, to, ta, tn, tc, rfl, htb, hc0, hH⟩ := V3.out.at HJ.out
              have HC := Kp.mk (rlookup_any (T.getD j default) dest M _ w3 hH)
              have HWG := Kp.mk (fun f => walkG_on (f := f) HIN.out (a := j) (T := T) (dest := dest))
              have HWE := Kp.mk (fun f => walkG_end (f := f) HIN.out (a := j) (T := T) (dest := dest))
              have HON := Kp.mk (HI.out.on (a := j) HIN.out)
              rw [HNX.out] at HWG HWE HON
              clear htb hH HNX
              generalize lookF (T.getD j default) dest = x at HC HWG HWE HLO HON
              go_wp2_with fail
              refine HC.out.mono ?_
              rintro r w4 ⟨rfl, rfl⟩
              rcases HLO.out with hx | hx
              · have HR1 : Kp (R = (way ++ [(j : Int)], false)) := ⟨by obtain ⟨f, hf, _⟩ := HF.out; rw [← HG.out, hf]; exact HWE.out f (.inr hx)⟩
                have hx0 : x < 0 := by omega
                clear hx
                go_wp2_with fail
                go_ret2
                exact ⟨v', by rw [HR1.out]; rfl, by rw [HR1.out, ← HAe.out]; exact HO3.out, by rw [← HAe.out]; exact E3.out⟩
              · have HNX2 : Kp (¬ ((j : Int) = dest ∨ x = -1)) := ⟨by rintro (h | h); exact HD.out h; omega⟩
                have hx0 : ¬ (x < 0) := by omega
                clear hx
                have HI2 := Kp.mk (HON.out HNX2.out)
                have HG2 : Kp (walkG T dest (9 - (way ++ [(j : Int)]).length) (way ++ [(j : Int)]) x = R) := ⟨by obtain ⟨f, hf, hf2⟩ := HF.out; rw [List.length_append, List.length_singleton, ← hf2, ← HWG.out f HNX2.out, ← hf]; exact HG.out⟩
                go_wp2_with fail
                refine HC.out.mono ?_
                rintro r w4 ⟨rfl, rfl⟩
                go_wp2_with fail
                exact ⟨⟨way ++ [(j : Int)], x, rfl, HI2, HG2, HO3, E3, Z3⟩, by have := HM.out; have : lenV (.slice pw k cw) = k := rfl; omega⟩
            · have HR1 : Kp (R = (way ++ [(j : Int)], false)) := ⟨by obtain ⟨f, hf, _⟩ := HF.out; rw [← HG.out, hf]; exact walkG_end HIN.out (.inr (by unfold nextF; rw [if_neg (by rw [← HN.out]; omega)]))⟩
              have h1' : ¬ ((j : Int) < (n : Int)) := by omega
              have h1'' : (n : Int) ≤ j := by omega
              go_wp2_with fail
              go_ret2
              exact ⟨v', by rw [HR1.out]; rfl, by rw [HR1.out, ← HAe.out]; exact HO3.out, by rw [← HAe.out]; exact E3.out⟩
end Go.Proofs.Ytkeoebldadpoiaa
