/-
  Whole, by the program and by the document; the example.
-/
import Derived.Test.YtioeaknhcfkfcaaBbC
namespace Go.Proofs.Ytioeaknhcfkfcaa
open Go.RowKit

def whE (bl : List Int) : Int := if bl.length = 0 then 9 else if wholeB (bl.getD 0 0) = true then 0 else 10
def whK (bl : List Int) : Int := if whE bl = 0 then bl.getD 0 0 else 0
def whT (bl : List Int) : List Int := if whE bl = 0 then bl.drop 1 else []
def WholePost (bl : List Int) (w : World) (r : Ending) (w' : World) : Prop :=
  ∃ a n c, r = .returned (.tuple #[.int .i64 (whK bl), .slice a n c, .int .i64 (whE bl)]) ∧ HoldsB w' w'.heap.size (.slice a n c) (whT bl) ∧ Below w.heap.size w w'
theorem wh_none {bl : List Int} (h : bl.length = 0) : whE bl = 9 ∧ whK bl = 0 ∧ whT bl = [] := by
  have e : whE bl = 9 := by unfold whE; rw [if_pos h]
  exact ⟨e, by unfold whK; rw [e]; rfl, by unfold whT; rw [e]; rfl⟩
theorem wh_bad {bl : List Int} (h : bl.length ≠ 0) (h2 : wholeB (bl.getD 0 0) = false) : whE bl = 10 ∧ whK bl = 0 ∧ whT bl = [] := by
  have e : whE bl = 10 := by unfold whE; rw [if_neg h, if_neg (by rw [h2]; simp)]
  exact ⟨e, by unfold whK; rw [e]; rfl, by unfold whT; rw [e]; rfl⟩
theorem wh_good {bl : List Int} (h : bl.length ≠ 0) (h2 : wholeB (bl.getD 0 0) = true) : whE bl = 0 ∧ whK bl = bl.getD 0 0 ∧ whT bl = bl.drop 1 := by
  have e : whE bl = 0 := by unfold whE; rw [if_neg h, if_pos h2]
  exact ⟨e, by unfold whK; rw [e]; rfl, by unfold whT; rw [e]; rfl⟩
theorem HoldsB.tail1 {w : World} {M b off n cap : Nat} {l : List Int} (h : HoldsB w M (.slice (some ⟨b, off, none⟩) n cap) l) (h0 : 0 < l.length) :
    HoldsB w M (.slice (if cap = 1 then some ⟨b, off, none⟩ else some ⟨b, off + 1, none⟩) (n - 1) (cap - 1)) (l.drop 1) := by
  obtain ⟨a', cap', h1, h2, h3, h4, h5, h6, h7⟩ := h
  cases h1
  obtain ⟨q1, q2, q3⟩ := h5 _ rfl h0
  refine ⟨_, cap - 1, by rw [List.length_drop], by rw [List.length_drop]; omega, by omega, fun e => ?_, fun x hx hl => ?_, fun x i hx hi => ?_, h7.drop 1⟩
  · split at e <;> cases e
  · split at hx <;> cases hx <;> exact ⟨rfl, q2, q3⟩
  · rw [List.length_drop] at hi
    rw [if_neg (by omega)] at hx
    cases hx
    have := h6 _ (i + 1) rfl (by omega)
    rw [show (l.drop 1).getD i 0 = l.getD (i + 1) 0 by rw [drop_getD, Nat.add_comm]]
    rw [← this]
    simp only [Nat.add_assoc, Nat.add_comm 1 i]
set_option maxHeartbeats 3200000 in
theorem whole_any (v : Value) (bl : List Int) (w : World) (h : HoldsB w w.heap.size v bl) (hl : bl.length ≤ 20000) : Calls Try.prog 17 #[v] w (WholePost bl w) := by
  have H := Kp.mk h
  obtain ⟨a, n, cap, rfl, hn⟩ := h.slice
  have HN := Kp.mk hn
  have hn2 : n ≤ 20000 := by omega
  clear h hl
  by_cases h0 : n = 0
  · have HE := Kp.mk (wh_none (bl := bl) (by omega))
    subst h0
    clear hn
    go_enter Try.func17, Try.ntmps17
    go_wp2_with fail
    refine bodyPost_ret (v := .tuple #[.int .i64 0, .slice none 0 0, .int .i64 9]) (by simp [results, Try.results17, go_sem]) rfl ?_
    unfold WholePost
    rw [HE.out.1, HE.out.2.1, HE.out.2.2]
    exact ⟨_, _, _, rfl, HoldsB.nil _ _, Below.refl _ _⟩
  · obtain ⟨b, off, rfl, -, hc⟩ := H.out.cellAt (i := 0) (by omega)
    have hx := H.out.bytes.at (i := 0) (by omega)
    have H0 : Kp (bl.length ≠ 0) := ⟨by omega⟩
    have HG := Kp.mk (wh_good (bl := bl) H0.out)
    have HB := Kp.mk (wh_bad (bl := bl) H0.out)
    have HTL := Kp.mk (H.out.tail1 (by omega))
    have n1 : (0 : Int) < n := by omega
    have n2 : (1 : Int) ≤ n := by omega
    have hnn : ¬ n = 0 := h0
    have hnb : ((n : Int) == 0) = false := by simp; omega
    have hw : IntKind.i64.wrap (bl.getD 0 0) = bl.getD 0 0 := IntWalk.i64_in _ (by omega)
    have HLL : Kp ((bl.drop 1).length ≤ 140737488351232) := ⟨by rw [List.length_drop]; omega⟩
    clear hn h0
    generalize bl.getD 0 0 = x at hc hx HG HB hw
    simp only [Nat.add_zero] at hc
    by_cases hcp : cap = 1
    case' pos => subst hcp; rw [if_pos rfl] at HTL; simp only [Nat.sub_self] at HTL
    case' neg => rw [if_neg hcp] at HTL
    all_goals
      have HX := Kp.mk hx
      cases hwx : wholeB x with
      | false =>
        have HE := Kp.mk (HB.out hwx)
        have HWX := Kp.mk hwx
        clear hwx HG HB hx
        go_enter Try.func17, Try.ntmps17
        go_wp2_with fail
        refine (isWhole_any x _).mono ?_
        rintro r w1 ⟨rfl, rfl⟩
        rw [HWX.out]
        go_wp2_with fail
        refine bodyPost_ret (v := .tuple #[.int .i64 0, .slice none 0 0, .int .i64 10]) (by simp [results, Try.results17, go_sem]) rfl ?_
        unfold WholePost
        rw [HE.out.1, HE.out.2.1, HE.out.2.2]
        exact ⟨_, _, _, rfl, HoldsB.nil _ _, Below.refl _ _⟩
      | true =>
        have HE := Kp.mk (HG.out hwx)
        have HWX := Kp.mk hwx
        clear hwx HG HB hx
        go_enter Try.func17, Try.ntmps17
        go_wp2_with fail
        refine (isWhole_any x _).mono ?_
        rintro r w1 ⟨rfl, rfl⟩
        rw [HWX.out]
        go_wp2_with fail
        refine (clone_any _ _ (bl.drop 1) _ HTL.out HLL.out).mono ?_
        rintro r w2 ⟨v', rfl, ho, hb⟩
        have HO := Kp.mk (HoldsB.ofRow HTL.out.bytes ho)
        have E := Kp.mk hb
        clear ho hb
        obtain ⟨va, vn, vc, rfl, -⟩ := HO.out.slice
        go_wp2_with fail
        refine bodyPost_ret (v := .tuple #[.int .i64 x, .slice va vn vc, .int .i64 0]) (by simp [results, Try.results17, go_sem]) rfl ?_
        unfold WholePost
        rw [HE.out.1, HE.out.2.1, HE.out.2.2]
        exact ⟨_, _, _, rfl, HO.out, E.out⟩
set_option maxHeartbeats 3200000 in
theorem rwhole_any (v : Value) (bl : List Int) (w : World) (h : HoldsB w w.heap.size v bl) (hl : bl.length ≤ 20000) : Calls Try.prog 18 #[v] w (WholePost bl w) := by
  have H := Kp.mk h
  obtain ⟨a, n, cap, rfl, hn⟩ := h.slice
  have HN := Kp.mk hn
  have hn2 : n ≤ 20000 := by omega
  clear h hl
  by_cases h0 : n = 0
  · have HE := Kp.mk (wh_none (bl := bl) (by omega))
    subst h0
    clear hn
    go_enter Try.func18, Try.ntmps18
    go_wp2_with fail
    refine bodyPost_ret (v := .tuple #[.int .i64 0, .slice none 0 0, .int .i64 9]) (by simp [results, Try.results18, go_sem]) rfl ?_
    unfold WholePost
    rw [HE.out.1, HE.out.2.1, HE.out.2.2]
    exact ⟨_, _, _, rfl, HoldsB.nil _ _, Below.refl _ _⟩
  · obtain ⟨b, off, rfl, -, hc⟩ := H.out.cellAt (i := 0) (by omega)
    have hx := H.out.bytes.at (i := 0) (by omega)
    have H0 : Kp (bl.length ≠ 0) := ⟨by omega⟩
    have HG := Kp.mk (wh_good (bl := bl) H0.out)
    have HB := Kp.mk (wh_bad (bl := bl) H0.out)
    have HTL := Kp.mk (H.out.tail1 (by omega))
    have n1 : (0 : Int) < n := by omega
    have n2 : (1 : Int) ≤ n := by omega
    have hnn : ¬ n = 0 := h0
    have hnb : ((n : Int) == 0) = false := by simp; omega
    have hw : IntKind.i64.wrap (bl.getD 0 0) = bl.getD 0 0 := IntWalk.i64_in _ (by omega)
    clear hn h0
    generalize bl.getD 0 0 = x at hc hx HG HB hw
    simp only [Nat.add_zero] at hc
    by_cases hcp : cap = 1
    case' pos => subst hcp; rw [if_pos rfl] at HTL; simp only [Nat.sub_self] at HTL
    case' neg => rw [if_neg hcp] at HTL
    all_goals
      by_cases hw1 : x < 1
      · have HE := Kp.mk (HB.out (by simp [wholeB]; omega))
        clear HG HB
        go_enter Try.func18, Try.ntmps18
        go_wp2_with fail
        refine bodyPost_ret (v := .tuple #[.int .i64 0, .slice none 0 0, .int .i64 10]) (by simp [results, Try.results18, go_sem]) rfl ?_
        unfold WholePost
        rw [HE.out.1, HE.out.2.1, HE.out.2.2]
        exact ⟨_, _, _, rfl, HoldsB.nil _ _, Below.refl _ _⟩
      · by_cases hw3 : 3 < x
        · have HE := Kp.mk (HB.out (by simp [wholeB]; omega))
          clear HG HB
          go_enter Try.func18, Try.ntmps18
          go_wp2_with fail
          refine bodyPost_ret (v := .tuple #[.int .i64 0, .slice none 0 0, .int .i64 10]) (by simp [results, Try.results18, go_sem]) rfl ?_
          unfold WholePost
          rw [HE.out.1, HE.out.2.1, HE.out.2.2]
          exact ⟨_, _, _, rfl, HoldsB.nil _ _, Below.refl _ _⟩
        · have HE := Kp.mk (HG.out (by simp [wholeB]; omega))
          clear HG HB
          go_enter Try.func18, Try.ntmps18
          go_wp2_with fail
          go_quiet (fail)
          go_wp2_with fail
          refine bodyPost_ret (v := .tuple #[.int .i64 x, _, .int .i64 0]) (by simp [results, Try.results18, go_sem]; rfl) rfl ?_
          unfold WholePost
          rw [HE.out.1, HE.out.2.1, HE.out.2.2]
          exact ⟨_, _, _, rfl, HTL.out.keep ⟨rfl, rfl, rfl, Nat.le_refl _, fun _ _ => rfl⟩, ⟨rfl, by simp, rfl, Nat.le_refl _, fun _ _ => rfl⟩⟩
end Go.Proofs.Ytioeaknhcfkfcaa
