/-
  The contract of takes, where short sums are asked for.
-/
import Derived.Test.YtgpjffchpppceaaTakes
import Derived.Deep.RegionHeld3
namespace Go.Proofs.Ytgpjffchpppceaa
open Go.RowKit

theorem cell_turn {w w' : World} {b X k : Nat} {o : Obj} {v : Value} (h : Turn b o w w') (hne : X ≠ b) (hc : w.cell? ⟨X, k, none⟩ = some v) : w'.cell? ⟨X, k, none⟩ = some v :=
  (World.cell?_of_block (w := w) (a := ⟨X, k, none⟩) (h.other X (World.block_lt_of_cell? w _ hc) hne)).trans hc
theorem cell_below {w w' : World} {X k : Nat} {v : Value} (h : Below w.heap.size w w') (hc : w.cell? ⟨X, k, none⟩ = some v) : w'.cell? ⟨X, k, none⟩ = some v :=
  (h.cell (p := ⟨X, k, none⟩) (World.block_lt_of_cell? w _ hc)).trans hc
theorem rsumsP_bytes {B : List Int} (h : Bytes B) (at' : Nat) (e most : Int) : Bytes (rsumsP B at' e most) := by
  unfold rsumsP
  split
  · exact (h.drop _).take _
  · exact Bytes.nil
theorem le_maxLen {n : Nat} (h : n ≤ 65535) : n ≤ maxLen := by unfold maxLen; omega
theorem le_mill {n : Nat} (h : n ≤ 65535) : n ≤ 1000000 := by omega
theorem two_rows {w : World} {base n m : Nat} {t : TypeId} {v : Value} {l p : List Int} (hb : Bytes l) (he : l = p) (h1 : l.length = n * 16 ∧ n ≤ 65535) (h2 : p.length = m * 16 ∧ m ≤ 255) (h : w.ownsRow base t 16 v m (bv p)) : HoldsS w v n l := by
  subst he
  obtain rfl : n = m := by omega
  exact HoldsS.ofRow hb (le_maxLen h1.2) h1.1 h

set_option maxHeartbeats 3200000 in
theorem takes_5 (M I R : Nat) (B l : List Int) (e : Int) (at' : Nat) (C : Array Value) (most : Int) (w : World) (hi : InIs w M I l e) (hr : RefIs w M R B at' e) (hrel : Rel l e B at') (hne : I ≠ R)
    (hk : C[0]? = some (.int .i64 5)) (hm : C[20]? = some (.int .i64 most)) (hs : C.size = 21) (hm0 : -9223372036854775808 ≤ most) (hm1 : most ≤ 9223372036854775807) :
    Calls Try.prog 14 #[.pointer (some ⟨I, 0, none⟩), .pointer (some ⟨R, 0, none⟩), .agg C] w fun r w' => r = .returned (.bool true) ∧ ∃ l' e' at2, Rel l' e' B at2 ∧ Bth M I R B l' e' at2 e' w w' := by
  have hbx := box45 hs w
  have BX := Blk.new w (.cells C 45)
  have E0 := more (Below.refl _ w) (.cells C 45)
  have c0 := BX.cell 0
  have c20 := BX.cell 20
  rw [hk] at c0
  rw [hm] at c20
  have S0 := Lib.hid ((Bth.start hi hr).below E0)
  have HREL := Lib.hid hrel
  have hIl := hi.lt
  have hRl := hr.lt
  have hX : w.heap.size < (w.alloc (.cells C 45)).heap.size := by simp
  clear BX E0 hk hm hs hi hr hrel
  generalize hW : w.alloc (.cells C 45) = W0 at hbx c0 c20 S0 hX
  clear hW
  have HBY := Lib.hid S0.out.i.bytes
  have HBB := Lib.hid S0.out.r.bytes
  have HSU := Lib.hid (HREL.out.sums HBY.out HBB.out most)
  have HM := Lib.hid (And.intro hm0 hm1)
  have HBS : Hid (Bytes (sumsP l e most)) := by unfold Hid; rw [HSU.out.1]; exact rsumsP_bytes HBB.out at' e most
  have SS := Lib.hid S0.out.drew
  have hcx : W0.drew.cell? ⟨w.heap.size, 20, none⟩ = some (.int .i64 most) := c20
  have hIX : w.heap.size ≠ I := by omega
  have hRX : w.heap.size ≠ R := by omega
  clear S0 HREL
  go_enter Try.func14, Try.ntmps14
  go_wp2_with (refine wpList_box_eq rfl 45 (.tmp 2) rfl (.agg C) rfl _ _ hbx ?_)
  clear c0
  go_region_held3 (fun w' => w'.cell? ⟨w.heap.size, 20, none⟩ = some (.int .i64 most)) (first | exact hcx | exact c20)
    (first
    | (go_at_call 24; refine (sums_any M I l e most _ SS.out.i HM.out.1 HM.out.2).mono ?_; rintro r wn ⟨v5, n5, rfl, hl5, hn5, hrow5, hst5⟩;
       (have hRl2 := SS.out.r.lt); (have HROW := Lib.hid (ownsRow_base hrow5 hRl2)); (have HN5 := Lib.hid (And.intro hl5 hn5)); (try (have HROW2 := Lib.hid (by obtain ⟨_, o, ho⟩ := hst5; exact ownsRow_turn HROW2.out ho (Nat.lt_succ_self I))));
       (have hcx := (by obtain ⟨_, o, ho⟩ := hst5; exact cell_turn ho hIX hcx : wn.cell? ⟨w.heap.size, 20, none⟩ = some (.int .i64 most))); (have SS := Lib.hid (SS.out.inn hst5 hne)); clear hl5 hn5 hrow5 hst5 hRl2)
    | (go_at_call 45; refine (rsums_any M R B at' e most _ SS.out.r HM.out.1 HM.out.2).mono ?_; rintro r wn ⟨v6, n6, rfl, hl6, hn6, hrow6, hst6⟩;
       (have hIl2 := SS.out.i.lt); (have HROW2 := Lib.hid (ownsRow_base hrow6 hIl2)); (have HN6 := Lib.hid (And.intro hl6 hn6)); (try (have HROW := Lib.hid (by obtain ⟨_, o, ho⟩ := hst6; exact ownsRow_turn HROW.out ho (Nat.lt_succ_self R)))); (try (have HROWF := Lib.hid (by obtain ⟨_, o, ho⟩ := hst6; exact ownsRow_turn HROWF.out ho (Nat.lt_succ_self R))));
       (have hcx := (by obtain ⟨_, o, ho⟩ := hst6; exact cell_turn ho hRX hcx : wn.cell? ⟨w.heap.size, 20, none⟩ = some (.int .i64 most))); (have SS := Lib.hid (SS.out.ref hst6 hne)); clear hl6 hn6 hrow6 hst6 hIl2)
    | (go_at_call 23; (have hA := HoldsS.ofRow HBS.out (le_maxLen HN5.out.2) HN5.out.1 HROW.out); refine (from_any v5 n5 (sumsP l e most) _ hA (le_mill HN5.out.2)).mono ?_; rintro r wn ⟨v7, rfl, hrow7, hb7⟩;
       (have hRl2 := SS.out.r.lt); (have HROWF := Lib.hid (ownsRow_base hrow7 hRl2)); (try (have HROW2 := Lib.hid (ownsRow_below HROW2.out hb7))); (have hcx := cell_below hb7 hcx); (have SS := Lib.hid (SS.out.below hb7)); clear hrow7 hb7 hRl2 hA)
    | (go_at_call 22; (have hA := HoldsS.ofRow HBS.out (le_maxLen HN5.out.2) HN5.out.1 HROWF.out); (have hB := two_rows HBS.out HSU.out.1 HN5.out HN6.out HROW2.out); refine (sames_any v7 v6 n5 (sumsP l e most) _ hA hB (le_mill HN5.out.2)).mono ?_; rintro r wn ⟨rfl, hb8⟩;
       (have hcx := cell_below hb8 hcx); (have SS := Lib.hid (SS.out.below hb8)); clear hb8 hA hB))
  all_goals
    have HT : Hid (Rel (sumsL l e most) (rsumsE B at' e most) B (rsumsA B at' e most) ∧ Bth M I R B (sumsL l e most) (rsumsE B at' e most) (rsumsA B at' e most) (rsumsE B at' e most) w wn) := by
      have := SS.out
      rw [HSU.out.2.1] at this
      exact ⟨HSU.out.2.2, this⟩
    clear SS
    generalize sumsL l e most = lx at HT
    generalize rsumsE B at' e most = ex at HT
    generalize rsumsA B at' e most = ax at HT
    clear hcx c20
    go_wp2_with fail
    have HR1 := Lib.hid HT.out.1
    have HLE := Lib.hid HR1.out.left
    refine wp_region_flow (fun w' => Bth M I R B lx ex ax ex w w') (by kernel_rfl) (by kernel_rfl) (by kernel_rfl) (fun _ _ h hb => h.below hb) HT.out.2.drew ?_
    repeat (first
      | (apply Flow.call
         · rfl
         · (intro wx hS; go_simp; constructor <;> with_reducible rfl)
         · (intro wx hS; first
            | exact (err_any M I lx ex wx hS.i).mono (by rintro r w9 ⟨h1, rfl⟩; exact ⟨h1, Below.refl _ _⟩)
            | exact (left_any M I lx ex wx hS.i).mono (by rintro r w9 ⟨h1, rfl⟩; exact ⟨h1, Below.refl _ _⟩)
            | exact rleft_rel hS.r HR1.out)
         try simp only [Act.put, List.setIfInBounds_toArray, List.set_cons_zero, List.set_cons_succ])
      | (apply Flow.value
         · rfl
         · (intro wx hS; obtain ⟨vx, hvx, hBx⟩ := hS.r.is; have d2 := hBx.cell 2; clear hS hvx hBx; go_simp; with_reducible rfl)
         try simp only [Act.put, List.setIfInBounds_toArray, List.set_cons_zero, List.set_cons_succ]))
    refine Flow.done ?_
    intro w4 hS
    have HS4 := Lib.hid hS
    clear hS
    go_wp2_with fail
    go_ret
    exact ⟨rfl, lx, ex, ax, HR1.out, HS4.out⟩
end Go.Proofs.Ytgpjffchpppceaa
