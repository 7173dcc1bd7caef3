/-
  The contract of takes, where a blob is asked for; and takes, whole.
-/
import Derived.Test.YtgpjffchpppceaaTakes5
import Derived.Test.YtgpjffchpppceaaTakes7
namespace Go.Proofs.Ytgpjffchpppceaa
open Go.RowKit

/-- Where ways meet: the frame but for two values, and what holds of the world. -/
def CutPost (fr : Value → Value → Act) (S : World → Prop) : Exit → Act → World → Prop
  | .normal, a, w => ∃ v5 v6 : Value, a = fr v5 v6 ∧ S w
  | _, _, _ => False
theorem CutPost.mk {fr : Value → Value → Act} {S : World → Prop} (v5 v6 : Value) {a : Act} {w : World} (h : a = fr v5 v6) (hs : S w) : CutPost fr S .normal a w := ⟨v5, v6, h, hs⟩
theorem wp_cut2 {P : Program} {c : Code} {Q : Exit → Act → World → Prop} {a : Act} {w : World} (fr : Value → Value → Act) (S : World → Prop) (h1 : c.wp P (CutPost fr S) a w)
    (h2 : ∀ v5 v6 w, S w → Q .normal (fr v5 v6) w) : c.wp P Q a w :=
  Code.wp_mono (fun e a w h => by
    cases e with
    | normal => obtain ⟨v5, v6, rfl, h⟩ := h; exact h2 v5 v6 w h
    | _ => exact (h : False).elim) h1

set_option maxHeartbeats 3200000 in
theorem takes_6 (M I R : Nat) (B l : List Int) (e : Int) (at' : Nat) (C : Array Value) (most : Int) (w : World) (hi : InIs w M I l e) (hr : RefIs w M R B at' e) (hrel : Rel l e B at') (hne : I ≠ R)
    (hk : C[0]? = some (.int .i64 6)) (hm : C[20]? = some (.int .i64 most)) (hs : C.size = 21) (hm0 : -9223372036854775808 ≤ most) (hm1 : most ≤ 9223372036854775807) :
    Calls Try.prog 14 #[.pointer (some ⟨I, 0, none⟩), .pointer (some ⟨R, 0, none⟩), .agg C] w fun r w' => r = .returned (.bool true) ∧ ∃ l' e' at2, Rel l' e' B at2 ∧ Bth M I R B l' e' at2 e' w w' := by
  have hbx := box45 hs w
  have BX := Blk.new w (.cells C 45)
  have E0 := more (Below.refl _ w) (.cells C 45)
  have c0 := BX.cell 0
  have c20 := BX.cell 20
  rw [hk] at c0
  rw [hm] at c20
  have S0 := Lib.hid ((Bth.start hi hr).below E0)
  have HREL := Lib.hid hrel
  have hIl := hi.lt
  have hRl := hr.lt
  have hX : w.heap.size < (w.alloc (.cells C 45)).heap.size := by simp
  clear BX E0 hk hm hs hi hr hrel
  generalize hW : w.alloc (.cells C 45) = W0 at hbx c0 c20 S0 hX
  clear hW
  have HBY := Lib.hid S0.out.i.bytes
  have HBB := Lib.hid S0.out.r.bytes
  have HSU := Lib.hid (HREL.out.blob HBY.out HBB.out most)
  have HM := Lib.hid (And.intro hm0 hm1)
  have SS := Lib.hid S0.out.drew
  have hcx : W0.drew.cell? ⟨w.heap.size, 20, none⟩ = some (.int .i64 most) := c20
  have hIX : w.heap.size ≠ I := by omega
  have hRX : w.heap.size ≠ R := by omega
  clear S0 HREL
  go_enter Try.func14, Try.ntmps14
  go_wp2_with (refine wpList_box_eq rfl 45 (.tmp 2) rfl (.agg C) rfl _ _ hbx ?_)
  clear c0
  refine wp_cut2 ?fr (fun w' => Hid (Rel (blobL l e most) (rblobE B at' e most) B (rblobA B at' e most) ∧ Bth M I R B (blobL l e most) (rblobE B at' e most) (rblobA B at' e most) (rblobE B at' e most) w w')) ?h1 ?h2
  case h1 =>
    go_region_law
      (first
      | (go_simp; go_at_call 25; refine (blob_any M I l e most _ SS.out.i HM.out.1 HM.out.2).mono ?_; rintro r wn ⟨v5, rfl, ⟨hb5, hrow5⟩, hst5⟩;
         (have hRl2 := SS.out.r.lt); (have HROW := Lib.hid (ownsRow_base hrow5 hRl2)); (have HB5 := Lib.hid hb5); (have hcv5 := (HoldsB.ofRow hb5 hrow5).text); (try (have HROW2 := Lib.hid (by obtain ⟨_, o, ho⟩ := hst5; exact ownsRow_turn HROW2.out ho (Nat.lt_succ_self I)))); (try (have hcv6 := (HoldsB.ofRow HB6.out HROW2.out).text));
         (have hcx := (by obtain ⟨_, o, ho⟩ := hst5; exact cell_turn ho hIX hcx : wn.cell? ⟨w.heap.size, 20, none⟩ = some (.int .i64 most))); (have SS := Lib.hid (SS.out.inn hst5 hne)); clear hb5 hrow5 hst5 hRl2)
      | (go_simp; go_at_call 46; refine (rblob_any M R B at' e most _ SS.out.r HM.out.1 HM.out.2).mono ?_; rintro r wn ⟨v6, rfl, ⟨hb6, hrow6⟩, hst6⟩;
         (have hIl2 := SS.out.i.lt); (have HROW2 := Lib.hid (ownsRow_base hrow6 hIl2)); (have HB6 := Lib.hid hb6); (have hcv6 := (HoldsB.ofRow hb6 hrow6).text); (try (have HROW := Lib.hid (by obtain ⟨_, o, ho⟩ := hst6; exact ownsRow_turn HROW.out ho (Nat.lt_succ_self R)))); (try (have hcv5 := (HoldsB.ofRow HB5.out HROW.out).text));
         (have hcx := (by obtain ⟨_, o, ho⟩ := hst6; exact cell_turn ho hRX hcx : wn.cell? ⟨w.heap.size, 20, none⟩ = some (.int .i64 most))); (have SS := Lib.hid (SS.out.ref hst6 hne)); clear hb6 hrow6 hst6 hIl2))
    all_goals
      have HT : Hid (Rel (blobL l e most) (rblobE B at' e most) B (rblobA B at' e most) ∧ Bth M I R B (blobL l e most) (rblobE B at' e most) (rblobA B at' e most) (rblobE B at' e most) w wn) := by
        have := SS.out
        rw [HSU.out.2.1] at this
        exact ⟨HSU.out.2.2, this⟩
      have hbeq : ((strOfNums (blobP l e most)).toList == (strOfNums (rblobP B at' e most)).toList) = true := by rw [HSU.out.1]; simp
      rw [hbeq]
      refine CutPost.mk v5 v6 ?_ HT
      go_simp
      try rfl
  case h2 =>
    intro v5 v6 w2 HT
    clear SS hcx c20
    generalize blobL l e most = lx at HT
    generalize rblobE B at' e most = ex at HT
    generalize rblobA B at' e most = ax at HT
    try dsimp only
    go_wp2_with fail
    have HR1 := Lib.hid HT.out.1
    have HLE := Lib.hid HR1.out.left
    refine wp_region_flow (fun w' => Bth M I R B lx ex ax ex w w') (by kernel_rfl) (by kernel_rfl) (by kernel_rfl) (fun _ _ h hb => h.below hb) HT.out.2.drew ?_
    repeat (first
      | (apply Flow.call
         · rfl
         · (intro wx hS; go_simp; constructor <;> with_reducible rfl)
         · (intro wx hS; first
            | exact (err_any M I lx ex wx hS.i).mono (by rintro r w9 ⟨h1, rfl⟩; exact ⟨h1, Below.refl _ _⟩)
            | exact (left_any M I lx ex wx hS.i).mono (by rintro r w9 ⟨h1, rfl⟩; exact ⟨h1, Below.refl _ _⟩)
            | exact rleft_rel hS.r HR1.out)
         try simp only [Act.put, List.setIfInBounds_toArray, List.set_cons_zero, List.set_cons_succ])
      | (apply Flow.value
         · rfl
         · (intro wx hS; obtain ⟨vx, hvx, hBx⟩ := hS.r.is; have d2 := hBx.cell 2; clear hS hvx hBx; go_simp; with_reducible rfl)
         try simp only [Act.put, List.setIfInBounds_toArray, List.set_cons_zero, List.set_cons_succ]))
    refine Flow.done ?_
    intro w4 hS
    have HS4 := Lib.hid hS
    clear hS
    go_wp2_with fail
    go_ret
    exact ⟨rfl, lx, ex, ax, HR1.out, HS4.out⟩

theorem takes_any (M I R : Nat) (B l : List Int) (e : Int) (at' : Nat) (C : Array Value) (kind most : Int) (w : World) (hi : InIs w M I l e) (hr : RefIs w M R B at' e) (hrel : Rel l e B at') (hne : I ≠ R)
    (hk : C[0]? = some (.int .i64 kind)) (hm : C[20]? = some (.int .i64 most)) (hs : C.size = 21) (hm0 : -9223372036854775808 ≤ most) (hm1 : most ≤ 9223372036854775807) :
    Calls Try.prog 14 #[.pointer (some ⟨I, 0, none⟩), .pointer (some ⟨R, 0, none⟩), .agg C] w fun r w' => r = .returned (.bool true) ∧ ∃ l' e' at2, Rel l' e' B at2 ∧ Bth M I R B l' e' at2 e' w w' := by
  by_cases hkk : kind < 0 ∨ 7 < kind
  · exact takes_no M I R B l e at' C kind most w hi hr hrel hne hk hm hs hkk hm0 hm1
  · have hc : kind = 0 ∨ kind = 1 ∨ kind = 2 ∨ kind = 3 ∨ kind = 4 ∨ kind = 5 ∨ kind = 6 ∨ kind = 7 := by omega
    rcases hc with rfl | rfl | rfl | rfl | rfl | rfl | rfl | rfl
    · exact takes_0 M I R B l e at' C most w hi hr hrel hne hk hm hs hm0 hm1
    · exact takes_1 M I R B l e at' C most w hi hr hrel hne hk hm hs hm0 hm1
    · exact takes_2 M I R B l e at' C most w hi hr hrel hne hk hm hs hm0 hm1
    · exact takes_3 M I R B l e at' C most w hi hr hrel hne hk hm hs hm0 hm1
    · exact takes_4 M I R B l e at' C most w hi hr hrel hne hk hm hs hm0 hm1
    · exact takes_5 M I R B l e at' C most w hi hr hrel hne hk hm hs hm0 hm1
    · exact takes_6 M I R B l e at' C most w hi hr hrel hne hk hm hs hm0 hm1
    · exact takes_7 M I R B l e at' C most w hi hr hrel hne hk hm hs hm0 hm1
end Go.Proofs.Ytgpjffchpppceaa
