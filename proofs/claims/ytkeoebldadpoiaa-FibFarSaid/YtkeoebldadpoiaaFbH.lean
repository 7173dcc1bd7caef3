/-
  The example; which lists of hops are tables.
-/
import Derived.Test.YtkeoebldadpoiaaFbG
import Derived.IntWalk
namespace Go.Proofs.Ytkeoebldadpoiaa
open Go.RowKit

def aw1 : List H3 := [⟨2, 1, 0⟩]
def aw2 : List H3 := [⟨2, 0, 0⟩]
theorem aw_walk : walkG [aw1, aw2] 2 9 [] 0 = ([0, 1, 0], true) := by decide
theorem HoldsF.newRow {α : Type} {f : α → List Value} {k : Nat} (hf : ∀ x, (f x).length = k) {w : World} {M g : Nat} {e : TypeId} {l : List α} (h : Blk w g (.cells (l.flatMap f).toArray e)) (hM : g < M) (hl : l.length ≤ maxLen) : HoldsF f k w M (.slice (some ⟨g, 0, none⟩) l.length l.length) l := by
  have h2 : w.ownsRow 0 e k (.slice (some ⟨g, 0, none⟩) l.length l.length) l.length (l.flatMap f) := by
    have key : (l.flatMap f).length = l.length * k := by
      clear h hl
      induction l with
      | nil => simp
      | cons x t ih => rw [List.flatMap_cons, List.length_append, ih, hf, List.length_cons, Nat.succ_mul]; omega
    exact ⟨key, .inr ⟨g, l.length, _, rfl, Nat.zero_le _, h, Nat.le_refl _, hl, by simpa using key, by show List.take _ (l.flatMap f) = _; rw [← key, List.take_length]⟩⟩
  obtain ⟨a, cap, h3, h4, h5, h6⟩ := HoldsF.ofRow hf h2
  refine ⟨a, cap, h3, h4, h5, fun i hi => ?_⟩
  obtain ⟨b, off, e1, hB, hs, hr⟩ := h6 i hi
  cases h3
  cases e1
  exact ⟨g, 0, rfl, hM, hs, hr⟩
set_option maxHeartbeats 3200000 in
theorem awake_any (w : World) : Calls Try.prog 10 #[] w fun r w' => r = .returned (.bool true) ∧ Below w.heap.size w w' := by
  obtain ⟨B, hB⟩ : ∃ B, B = w.heap.size := ⟨_, rfl⟩
  obtain ⟨W3, hW3⟩ : ∃ W3, W3 = ((w.alloc (.cells #[.int .i64 2, .int .i64 1, .int .i64 0] 54)).alloc (.cells #[.int .i64 2, .int .i64 0, .int .i64 0] 54)).alloc (.cells #[.slice (some ⟨B, 0, none⟩) 1 1, .slice (some ⟨B + 1, 0, none⟩) 1 1] 26) := ⟨_, rfl⟩
  have HB3 : Kp (Below w.heap.size w W3 ∧ TabsIs W3 (B + 3) (.slice (some ⟨B + 2, 0, none⟩) 2 2) [aw1, aw2]) := ⟨by
    have b1 : Blk W3 B (.cells #[.int .i64 2, .int .i64 1, .int .i64 0] 54) := by rw [hW3, hB]; exact ((Blk.new _ _).old _).old _
    have b2 : Blk W3 (B + 1) (.cells #[.int .i64 2, .int .i64 0, .int .i64 0] 54) := by rw [hW3]; exact (Blk.newAt _ (by rw [hB]; simp)).old _
    have b3 : Blk W3 (B + 2) (.cells #[.slice (some ⟨B, 0, none⟩) 1 1, .slice (some ⟨B + 1, 0, none⟩) 1 1] 26) := by rw [hW3]; exact Blk.newAt _ (by rw [hB]; simp)
    refine ⟨by rw [hW3]; exact ((more (Below.refl _ _) _).alloc (by simp) _).alloc (by simp; omega) _, [.slice (some ⟨B, 0, none⟩) 1 1, .slice (some ⟨B + 1, 0, none⟩) 1 1], rfl, ?_, fun i hi => ?_⟩
    · exact HoldsF.newRow (f := vc) (k := 1) (fun _ => rfl) (l := [.slice (some ⟨B, 0, none⟩) 1 1, .slice (some ⟨B + 1, 0, none⟩) 1 1]) b3 (by omega) (by unfold maxLen; simp)
    · match i, hi with
      | 0, _ => exact HoldsF.newRow (f := hc) (k := 3) (fun _ => rfl) (l := aw1) b1 (by omega) (by unfold maxLen; decide)
      | 1, _ => exact HoldsF.newRow (f := hc) (k := 3) (fun _ => rfl) (l := aw2) b2 (by omega) (by unfold maxLen; decide)⟩
  have HE := Kp.mk (And.intro hB hW3)
  clear hB hW3
  go_enter Try.func10, Try.ntmps10
  go_wp2_with fail
  rw [← HE.out.1]
  have e2 : Kp (B + 1 + 1 = B + 2) := ⟨rfl⟩
  rw [show ((w.alloc (.cells #[.int .i64 2, .int .i64 1, .int .i64 0] 54)).alloc (.cells #[.int .i64 2, .int .i64 0, .int .i64 0] 54)).alloc (.cells #[.slice (some ⟨B, 0, none⟩) 1 1, .slice (some ⟨B + 1, 0, none⟩) 1 1] 26) = W3 from HE.out.2.symm]
  refine (walk_any [aw1, aw2] 0 2 _ _ _ HB3.out.2 (by decide)).mono ?_
  rw [aw_walk]
  rintro r w1 ⟨v, rfl, ho, hb⟩
  have E := Kp.mk (HB3.out.1.trans (hb.mono HB3.out.1.size))
  have HO := Kp.mk (ofRowI ho)
  clear ho hb
  obtain ⟨a, cap, rfl⟩ := HO.out.shape
  obtain ⟨b, off, rfl, -, -, h1⟩ := HO.out.int (i := 1) (by decide)
  go_wp2_with fail
  go_ret
  exact ⟨rfl, E.out⟩
def okAt (l : List H3) (i : Nat) : Prop := 0 ≤ (l.getD i default).d ∧ (l.getD i default).d < 8 ∧ 0 ≤ (l.getD i default).n ∧ (l.getD i default).n < 8 ∧ (0 < i → (l.getD (i - 1) default).d < (l.getD i default).d)
open Classical in
noncomputable def tblB (l : List H3) : Bool := decide (∀ i, i < l.length → okAt l i)
theorem tblB_yes {l : List H3} (h : ∀ i, i < l.length → okAt l i) : tblB l = true := by simp only [tblB, decide_eq_true_eq]; exact h
theorem tblB_no {l : List H3} {i : Nat} (hi : i < l.length) (h : ¬ okAt l i) : tblB l = false := by simp only [tblB, decide_eq_false_iff_not]; exact fun h2 => h (h2 i hi)
theorem tblB_out {l : List H3} (h : tblB l = true) : ∀ i, i < l.length → okAt l i := by simpa only [tblB, decide_eq_true_eq] using h
theorem rises : ∀ (n : Nat) (f : Nat → Int), (∀ i, i < n → 0 ≤ f i ∧ f i < 8 ∧ (0 < i → f (i - 1) < f i)) → ∀ i, i < n → (i : Int) ≤ f i := fun n f h i => by
  induction i with
  | zero => intro hi; have := (h 0 hi).1; omega
  | succ i ih =>
    intro hi
    have h1 := ih (by omega)
    have h2 : f i < f (i + 1) := (h (i + 1) hi).2.2 (by omega)
    omega
theorem tblB_len {l : List H3} (h : tblB l = true) : l.length ≤ 8 := by
  have h1 := tblB_out h
  have h2 := rises l.length (fun i => (l.getD i default).d) (fun i hi => ⟨(h1 i hi).1, (h1 i hi).2.1, (h1 i hi).2.2.2.2⟩)
  by_cases h0 : l.length = 0
  · omega
  · have h3 : ((l.length - 1 : Nat) : Int) ≤ (l.getD (l.length - 1) default).d := h2 (l.length - 1) (by omega)
    have h4 := (h1 (l.length - 1) (by omega)).2.1
    omega
theorem tblB_ok {l : List H3} (h : tblB l = true) : ∀ x ∈ l, 0 ≤ x.n ∧ x.n < 8 := fun x hx => by
  obtain ⟨i, hi, rfl⟩ := List.getElem_of_mem hx
  have := tblB_out h i hi
  rw [gd hi]
  exact ⟨this.2.2.1, this.2.2.2.1⟩
set_option maxHeartbeats 12800000 in
theorem table_any (l : List H3) (M : Nat) (v : Value) (w : World) (hv : HoldsF hc 3 w M v l) :
    Calls Try.prog 7 #[v] w fun r w' => r = .returned (.bool (tblB l)) ∧ ∃ k, w' = w.drewN k := by
  obtain ⟨a, cap, rfl⟩ := hv.shape
  have HV := Kp.mk hv
  have HL : Kp (l.length ≤ maxLen) := ⟨hv.len⟩
  clear hv
  obtain ⟨n, hn⟩ : ∃ n, n = l.length := ⟨_, rfl⟩
  rw [← hn] at HV ⊢
  have HN := Kp.mk hn
  have hnm : n ≤ 9223372036854775807 := by have := HL.out; unfold maxLen at this; omega
  clear hn HL
  go_enter Try.func7, Try.ntmps7
  go_wp2_with fail
  go_loopw [3] (fun c wr => ∃ i : Nat, i ≤ n ∧ c = .int .i64 i ∧ Kp (∀ j, j < i → okAt l j) ∧ Kp (∃ k, wr = w.drewN k)) (fun c _ => n - (intOf c).toNat)
  case atStart => exact ⟨0, by omega, rfl, ⟨fun j hj => by omega⟩, ⟨0, rfl⟩⟩
  case round =>
    obtain ⟨i, hi, rfl, HP, ⟨k, rfl⟩⟩ := hrel
    by_cases hlt : i < n
    · obtain ⟨b, off, rfl, hbs, hbM, h0, h1, h2⟩ := HV.out.hop (i := i) (by rw [← HN.out]; exact hlt)
      have HHI := Kp.mk hlt
      clear hbs hbM h2
      have t1 : (i : Int) < n := by omega
      have HBAD : Kp (¬ okAt l i → tblB l = false) := ⟨fun h => tblB_no (by rw [← HN.out]; exact HHI.out) h⟩
      have HON : Kp (okAt l i → ∀ j, j < i + 1 → okAt l j) := ⟨fun h j hj => by
        by_cases hji : j < i
        · exact HP.out j hji
        · obtain rfl : j = i := by omega
          exact h⟩
      have HD : Kp (okAt l i ↔ (0 ≤ (l.getD i default).d ∧ (l.getD i default).d < 8 ∧ 0 ≤ (l.getD i default).n ∧ (l.getD i default).n < 8 ∧ (0 < i → (l.getD (i - 1) default).d < (l.getD i default).d))) := ⟨Iff.rfl⟩
      by_cases hi0 : 0 < i
      · obtain ⟨b', off', hba, hbs, hbM, g0, g1, g2⟩ := HV.out.hop (i := i - 1) (by rw [← HN.out]; have := HHI.out; omega)
        cases hba
        have HI0 := Kp.mk hi0
        obtain ⟨j, hj⟩ : ∃ j, j = i - 1 := ⟨_, rfl⟩
        rw [← hj] at g0 HD
        have e1 : IntKind.i64.wrap ((i : Int) - 1) = (j : Int) := by rw [IntWalk.i64_in _ (by omega)]; omega
        have e4 : (0 : Int) ≤ (j : Int) := by omega
        have e5 : decide (0 < (i : Int)) = true := by simp; omega
        have e2 : (j : Int) < n := by omega
        clear hbs hbM g1 g2 hj
        generalize l.getD i default = h at h0 h1 HD
        generalize l.getD j default = q at g0 HD
        by_cases c1 : h.d < 0
        · have HR := Kp.mk (HBAD.out (fun hh => by have := HD.out.1 hh; omega))
          have bc1 : decide (h.d < 0) = true := by simp; omega
          clear HBAD HON HD HP c1
          go_wp2_with fail
          go_quiet (fail)
          go_wp2_with fail
          go_ret
          exact ⟨retb HR.out.symm, k + nq, World.drewN_drewN _ _ _⟩
        by_cases c2 : 8 ≤ h.d
        · have HR := Kp.mk (HBAD.out (fun hh => by have := HD.out.1 hh; omega))
          have bc1 : decide (h.d < 0) = false := by simp; omega
          have bc2 : decide (8 ≤ h.d) = true := by simp; omega
          clear HBAD HON HD HP c1 c2
          go_wp2_with fail
          go_quiet (fail)
          go_wp2_with fail
          go_ret
          exact ⟨retb HR.out.symm, k + nq, World.drewN_drewN _ _ _⟩
        by_cases c3 : h.n < 0
        · have HR := Kp.mk (HBAD.out (fun hh => by have := HD.out.1 hh; omega))
          have bc1 : decide (h.d < 0) = false := by simp; omega
          have bc2 : decide (8 ≤ h.d) = false := by simp; omega
          have bc3 : decide (h.n < 0) = true := by simp; omega
          clear HBAD HON HD HP c1 c2 c3
          go_wp2_with fail
          go_quiet (fail)
          go_wp2_with fail
          go_ret
          exact ⟨retb HR.out.symm, k + nq, World.drewN_drewN _ _ _⟩
        by_cases c4 : 8 ≤ h.n
        · have HR := Kp.mk (HBAD.out (fun hh => by have := HD.out.1 hh; omega))
          have bc1 : decide (h.d < 0) = false := by simp; omega
          have bc2 : decide (8 ≤ h.d) = false := by simp; omega
          have bc3 : decide (h.n < 0) = false := by simp; omega
          have bc4 : decide (8 ≤ h.n) = true := by simp; omega
          clear HBAD HON HD HP c1 c2 c3 c4
          go_wp2_with fail
          go_quiet (fail)
          go_wp2_with fail
          go_ret
          exact ⟨retb HR.out.symm, k + nq, World.drewN_drewN _ _ _⟩
        by_cases c5 : h.d ≤ q.d
        · have HR := Kp.mk (HBAD.out (fun hh => by have := (HD.out.1 hh).2.2.2.2 HI0.out; omega))
          have bc1 : decide (h.d < 0) = false := by simp; omega
          have bc2 : decide (8 ≤ h.d) = false := by simp; omega
          have bc3 : decide (h.n < 0) = false := by simp; omega
          have bc4 : decide (8 ≤ h.n) = false := by simp; omega
          have bc5 : decide (h.d ≤ q.d) = true := by simp; omega
          clear HBAD HON HD HP c1 c2 c3 c4 c5
          go_wp2_with fail
          go_quiet (fail)
          go_wp2_with fail
          go_ret
          exact ⟨retb HR.out.symm, k + nq, World.drewN_drewN _ _ _⟩
        have HR := Kp.mk (HON.out (HD.out.2 ⟨by omega, by omega, by omega, by omega, fun _ => by omega⟩))
        have bc1 : decide (h.d < 0) = false := by simp; omega
        have bc2 : decide (8 ≤ h.d) = false := by simp; omega
        have bc3 : decide (h.n < 0) = false := by simp; omega
        have bc4 : decide (8 ≤ h.n) = false := by simp; omega
        have bc5 : decide (h.d ≤ q.d) = false := by simp; omega
        clear HBAD HON HD HP c1 c2 c3 c4 c5
        go_wp2_with fail
        go_quiet (fail)
        go_wp2_with fail
        exact ⟨⟨i + 1, by omega, by go_num, HR, ⟨k + nq, by first | rfl | exact World.drewN_drewN _ _ _⟩⟩, by simp [intOf]; omega⟩
      · have HI0 := Kp.mk hi0
        have e5 : decide (0 < (i : Int)) = false := by simp; omega
        generalize l.getD i default = h at h0 h1 HD
        by_cases c1 : h.d < 0
        · have HR := Kp.mk (HBAD.out (fun hh => by have := HD.out.1 hh; omega))
          have bc1 : decide (h.d < 0) = true := by simp; omega
          clear HBAD HON HD HP c1
          go_wp2_with fail
          go_quiet (fail)
          go_wp2_with fail
          go_ret
          exact ⟨retb HR.out.symm, k + nq, World.drewN_drewN _ _ _⟩
        by_cases c2 : 8 ≤ h.d
        · have HR := Kp.mk (HBAD.out (fun hh => by have := HD.out.1 hh; omega))
          have bc1 : decide (h.d < 0) = false := by simp; omega
          have bc2 : decide (8 ≤ h.d) = true := by simp; omega
          clear HBAD HON HD HP c1 c2
          go_wp2_with fail
          go_quiet (fail)
          go_wp2_with fail
          go_ret
          exact ⟨retb HR.out.symm, k + nq, World.drewN_drewN _ _ _⟩
        by_cases c3 : h.n < 0
        · have HR := Kp.mk (HBAD.out (fun hh => by have := HD.out.1 hh; omega))
          have bc1 : decide (h.d < 0) = false := by simp; omega
          have bc2 : decide (8 ≤ h.d) = false := by simp; omega
          have bc3 : decide (h.n < 0) = true := by simp; omega
          clear HBAD HON HD HP c1 c2 c3
          go_wp2_with fail
          go_quiet (fail)
          go_wp2_with fail
          go_ret
          exact ⟨retb HR.out.symm, k + nq, World.drewN_drewN _ _ _⟩
        by_cases c4 : 8 ≤ h.n
        · have HR := Kp.mk (HBAD.out (fun hh => by have := HD.out.1 hh; omega))
          have bc1 : decide (h.d < 0) = false := by simp; omega
          have bc2 : decide (8 ≤ h.d) = false := by simp; omega
          have bc3 : decide (h.n < 0) = false := by simp; omega
          have bc4 : decide (8 ≤ h.n) = true := by simp; omega
          clear HBAD HON HD HP c1 c2 c3 c4
          go_wp2_with fail
          go_quiet (fail)
          go_wp2_with fail
          go_ret
          exact ⟨retb HR.out.symm, k + nq, World.drewN_drewN _ _ _⟩
        have HR := Kp.mk (HON.out (HD.out.2 ⟨by omega, by omega, by omega, by omega, fun h9 => absurd h9 HI0.out⟩))
        have bc1 : decide (h.d < 0) = false := by simp; omega
        have bc2 : decide (8 ≤ h.d) = false := by simp; omega
        have bc3 : decide (h.n < 0) = false := by simp; omega
        have bc4 : decide (8 ≤ h.n) = false := by simp; omega
        clear HBAD HON HD HP c1 c2 c3 c4
        go_wp2_with fail
        go_quiet (fail)
        go_wp2_with fail
        exact ⟨⟨i + 1, by omega, by go_num, HR, ⟨k + nq, by first | rfl | exact World.drewN_drewN _ _ _⟩⟩, by simp [intOf]; omega⟩
    · obtain rfl : i = n := by omega
      have HR := Kp.mk (tblB_yes (l := l) (by rw [← HN.out]; exact HP.out))
      go_wp2_with fail
      go_ret
      exact ⟨retb HR.out.symm, _, rfl⟩
end Go.Proofs.Ytkeoebldadpoiaa
