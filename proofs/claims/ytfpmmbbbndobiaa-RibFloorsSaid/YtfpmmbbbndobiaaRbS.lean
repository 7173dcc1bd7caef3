/-
  A copy of what is known, with its path.
-/
import Derived.Test.YtfpmmbbbndobiaaRbR
namespace Go.Proofs.Ytfpmmbbbndobiaa
open Go.RowKit

theorem ownsRow_down {w : World} {B B' : Nat} {t : TypeId} {s : Nat} {v : Value} {n : Nat} {xs : List Value} (hB : B ≤ B') (h : w.ownsRow B' t s v n xs) : w.ownsRow B t s v n xs :=
  ⟨h.1, h.2.imp id fun ⟨g, cap, cur, e, hb, r⟩ => ⟨g, cap, cur, e, Nat.le_trans hB hb, r⟩⟩
set_option maxRecDepth 100000 in
set_option maxHeartbeats 1600000 in
theorem clone_any (v : Value) (n : Nat) (p : List Int) (w : World) (h : HoldsS w v n p) (hn : n ≤ 1000000) :
    Calls Try.prog 60 #[v] w fun r w' => ∃ v', r = .returned v' ∧ w'.ownsRow w.heap.size 48 16 v' n (bv p) ∧ Below w.heap.size w w' := by
  obtain ⟨i0, hi, hz0, hz1, hz2⟩ := info_parts info51'
  obtain ⟨a, cap, rfl, hl, _, _, h4⟩ := h
  have hql : ∀ w, (binOp .eql 49 (.slice a n cap) (.slice none 0 0)).run Try.prog w = .ok (.bool a.isNone) w := fun w => Lib.run_eql_slice_nil w _ _ a n cap 0 0 Try.underlying49
  cases a with
  | none =>
    have h0 : n = 0 := by
      by_cases h : 0 < n
      · obtain ⟨b, off, e, _⟩ := h4 h
        cases e
      · omega
    subst h0
    have hp : p = [] := List.length_eq_zero_iff.1 (by omega)
    subst hp
    clear h4 hl hi hz0 hz1 hz2
    go_enter Try.func60, Try.ntmps60
    go_wp2_with fail
    go_ret
    exact ⟨_, rfl, World.ownsRow_nil _ _ _ _, Below.refl _ _⟩
  | some ad =>
    have HC : Kp (∀ j u, (bv p)[j]? = some u → (w.alloc (.cells #[] 48)).cell? (ad.add j) = some u) := ⟨fun j u hu => by
      have hj : j < n * 16 := by
        have := (List.getElem?_eq_some_iff.1 hu).1
        simp at this
        omega
      obtain ⟨b, off, e, hb, hc⟩ := h4 (by omega)
      simp only [Option.some.injEq] at e
      subst e
      have e : (⟨b, off, none⟩ : Addr).add j = ⟨b, off + j, none⟩ := by unfold Addr.add; split <;> simp_all
      rw [e]
      refine ((more (Below.refl w.heap.size w) (.cells #[] 48)).cell (p := ⟨b, off + j, none⟩) hb).trans ((hc j hj).trans ?_)
      rw [List.getElem?_map] at hu
      rw [List.getD_eq_getElem?_getD]
      cases hq : p[j]? with
      | none => rw [hq] at hu; cases hu
      | some q => rw [hq] at hu; exact hu⟩
    have HL := Kp.mk hl
    clear h4 hl
    go_enter Try.func60, Try.ntmps60
    go_wp2_with (at_builtin; refine wpList_append_own _ rfl _ _ 49 rfl w.heap.size 48 i0 _ 16 16 Try.underlying49 hi hz0 hz1 hz2 rfl (by decide) _ 0 [] rfl (World.ownsRow_made w #[] 0 (Nat.le_refl _) (by unfold maxLen; omega) rfl) ad n cap (bv p) rfl ?c0 HC.out (bv_one _) ?c1 ?c2 ?c3 ?_)
    case c0 => rw [List.length_map, HL.out]
    case c1 => unfold maxLen; omega
    case c2 => omega
    case c3 => simp
    intro v' w' ho hg _
    have hbel : Below w.heap.size w w' := below_row_grown (more (Below.refl _ _) (.cells #[] 48)) (by simp) (World.ownsRow_made (e := 48) (size := 16) w #[] 0 (Nat.le_refl _) (by unfold maxLen; omega) rfl) hg
    have HO : Kp (w'.ownsRow w.heap.size 48 16 v' n (bv p)) := ⟨by simpa using ho⟩
    have HB := Kp.mk hbel
    clear ho hg hbel
    go_wp2_with fail
    go_ret
    exact ⟨v', rfl, HO.out, HB.out⟩
theorem ownsRow_setRow_low {w : World} {B R : Nat} {t : TypeId} {s : Nat} {v : Value} {n : Nat} {xs : List Value} (h : w.ownsRow B t s v n xs) (hR : R < B) (cs : Array Value) : (w.setRow R cs).ownsRow B t s v n xs :=
  ⟨h.1, h.2.imp id fun ⟨g, cap, cur, e, hb, hg, r⟩ => ⟨g, cap, cur, e, hb, (setRow_other w R g cs (by omega)).trans hg, r⟩⟩
theorem row_is {w : World} {B : Nat} {t : TypeId} {s : Nat} {v : Value} {n : Nat} {xs : List Value} (h : w.ownsRow B t s v n xs) : ∃ a c, v = .slice a n c := by
  rcases h.2 with ⟨rfl, hn⟩ | ⟨g, cap, cur, rfl, hb, hg, h1, h2, h3, h4⟩
  · exact ⟨none, 0, by rw [hn]⟩
  · exact ⟨_, cap, rfl⟩
/-- A copy, and the same but for where its path lies. -/
def CopPost (x : KV) (n : Nat) (p : List Int) (w : World) (r : Ending) (w' : World) : Prop :=
  ∃ a c, r = .returned (.agg (knc { x with pa := a, pn := n, pc := c }).toArray) ∧ w'.ownsRow w.heap.size 48 16 (.slice a n c) n (bv p) ∧ Below w.heap.size w w'
set_option maxHeartbeats 1600000 in
theorem copied_any (x : KV) (n : Nat) (p : List Int) (w : World) (hp : HoldsS w (.slice x.pa x.pn x.pc) n p) (hn : n ≤ 1000000) : Calls Try.prog 44 #[.agg (knc x).toArray] w (CopPost x n p w) := by
  have hA := fun (w : World) => box_row (t := 51) (cs := knc x) (info51s x) w
  obtain ⟨A, hAe⟩ : ∃ A, A = w.heap.size := ⟨_, rfl⟩
  obtain ⟨R, hRe⟩ : ∃ R, R = A + 1 := ⟨_, rfl⟩
  obtain ⟨Z, hZ⟩ : ∃ Z, Z = kn0 0 k0 := ⟨_, rfl⟩
  obtain ⟨W, hW⟩ : ∃ W, W = (w.alloc x.obj).alloc Z.obj := ⟨_, rfl⟩
  have H : Kp (Blk W A x.obj ∧ Blk W R Z.obj ∧ Below A w W) := ⟨by rw [hW]; exact ⟨(Blk.newAt _ hAe).old _, Blk.newAt _ (by rw [hRe, hAe]; simp), by rw [hAe]; exact more (more (Below.refl _ _) _) _⟩⟩
  have HINF : Kp ((Try.prog.info? 51).map (fun i => (i.zero, i.size)) = some (some (.agg (knc Z).toArray), 21)) := ⟨by rw [hZ]; exact info51z⟩
  have HE := Kp.mk (And.intro hAe hRe)
  have HW := Kp.mk hW
  have HAR : Kp (A ≠ R) := ⟨by omega⟩
  have HSET : Kp (∀ a c, (knc x).toArray.setIfInBounds 20 (.slice a n c) = (knc { x with pa := a, pn := n, pc := c }).toArray) := ⟨fun a c => by
    obtain ⟨d, k, el, pa, pn, pc⟩ := x
    rfl⟩
  have c20 : W.cell? ⟨A, 20, none⟩ = some (.slice x.pa x.pn x.pc) := (H.out.1.cell 20).trans (show (knc x).toArray[20]? = some (.slice x.pa x.pn x.pc) from rfl)
  have HP : Kp (HoldsS W (.slice x.pa x.pn x.pc) n p) := ⟨hp.keep (by rw [← hAe]; exact H.out.2.2)⟩
  clear hW hAe hRe hZ hp
  go_enter Try.func44, Try.ntmps44
  go_upto_region 1 with (first
    | (refine wpList_box_eq rfl 51 (.tmp 0) rfl _ rfl _ _ (hA _) ?_)
    | (refine wpList_alloc_row rfl 51 rfl (knc Z).toArray 21 HINF.out ?_))
  rw [← HW.out, show (w.alloc x.obj).heap.size = R by rw [HE.out.2, HE.out.1]; simp, ← HE.out.1]
  go_upto_region 2 with fail
  refine (clone_any _ n p _ HP.out hn).mono ?_
  rintro r w1 ⟨v', rfl, ho, hb⟩
  obtain ⟨a, c, rfl⟩ := row_is ho
  have H1 : Kp (Blk w1 A x.obj ∧ Blk w1 R Z.obj ∧ Below A w w1 ∧ w1.ownsRow (R + 1) 48 16 (.slice a n c) n (bv p)) := ⟨H.out.1.keep hb, H.out.2.1.keep hb, H.out.2.2.trans (hb.mono (Nat.le_of_lt H.out.1.lt)), ownsRow_down (by have := H.out.2.1.lt; omega) ho⟩
  have f20 : w1.frozen? ⟨A, 20, none⟩ = false := H1.out.1.frozen 20
  have d20 : w1.cell? ⟨A, 20, none⟩ = some (.slice x.pa x.pn x.pc) := (H1.out.1.cell 20).trans (show (knc x).toArray[20]? = some (.slice x.pa x.pn x.pc) from rfl)
  clear c20 H ho hb HP
  go_upto_region 2 with fail
  have H2 : Kp (Blk (w1.setCell ⟨A, 20, none⟩ (.slice a n c)) A (KV.obj { x with pa := a, pn := n, pc := c }) ∧ Blk (w1.setCell ⟨A, 20, none⟩ (.slice a n c)) R Z.obj ∧ Below A w (w1.setCell ⟨A, 20, none⟩ (.slice a n c)) ∧ (w1.setCell ⟨A, 20, none⟩ (.slice a n c)).ownsRow (R + 1) 48 16 (.slice a n c) n (bv p)) := ⟨by have := H1.out.1.set 20 (.slice a n c); rw [HSET.out] at this; exact this, H1.out.2.1.setOther (p := ⟨A, 20, none⟩) HAR.out _, H1.out.2.2.1.setCell (p := ⟨A, 20, none⟩) (Nat.le_refl _) _, ownsRow_setCell_below H1.out.2.2.2 (a := ⟨A, 20, none⟩) (by show A < R + 1; have := HE.out.2; omega) _⟩
  clear d20 f20 H1
  revert H2
  generalize World.setCell _ _ _ = W2
  intro H2
  obtain ⟨y, hy⟩ : ∃ y : KV, y = { x with pa := a, pn := n, pc := c } := ⟨_, rfl⟩
  have HY := Kp.mk hy
  unfold CopPost
  rw [← hy] at H2
  go_wp2_with (first
    | (refine wpList_load_row rfl 51 (.tmp 1) rfl A rfl 51 (knc y).toArray (0, 0) _ H2.out.1 Try.underlying51 rfl (info51s _) ?_)
    | (refine wpList_store_row rfl 51 (.tmp 2) (.tmp 7) rfl R (knc y).toArray rfl rfl 51 _ H2.out.2.1 (info51s _) rfl (all_oneCell_toArray (knc_one _)) ?_
       have H3 : Kp (Blk (W2.setRow R (knc y).toArray) R y.obj ∧ Below A w (W2.setRow R (knc y).toArray) ∧ (W2.setRow R (knc y).toArray).ownsRow (R + 1) 48 16 (.slice a n c) n (bv p)) := ⟨Blk.setRow H2.out.2.1 _, below_setRow H2.out.2.2.1 (by have := HE.out.2; omega) _, ownsRow_setRow_low H2.out.2.2.2 (Nat.lt_succ_self R) _⟩
       revert H3
       generalize W2.setRow R (knc y).toArray = W3
       intro H3))
  refine bodyPost_ret (v := .agg (knc y).toArray) (ret44 rfl H3.out.1) rfl ⟨a, c, by rw [HY.out], ?_, by rw [← HE.out.1]; exact H3.out.2.1⟩
  exact ownsRow_down (by rw [← HE.out.1]; have := HE.out.2; omega) H3.out.2.2
end Go.Proofs.Ytfpmmbbbndobiaa
