/-
  A device's steps: step, Fuse, Sectors, Loose, Steps, Down, New.
-/
import Derived.Test.YtgikedbnnlckjaaSlA
namespace Go.Proofs.Ytgikedbnnlckjaa
open Go.RowKit

/-- What a step of the fuse makes of a device, and what it answers. -/
def stepS (s : SlS) : SlS := if s.fu = 0 then { s with dn := true } else { s with fu := if 0 < s.fu then s.fu - 1 else s.fu, st := s.st + 1 }
def stepE (s : SlS) : Int := if s.fu = 0 then 5 else 0
theorem slObj_set {g : Nat} {v : Value} {s : SlS} {w : World} (h : SlIs w g v s) : ∀ i, w.frozen? ⟨g + 1, i, none⟩ = false := fun i => h.b.frozen i
/-- Behind a turn of the object alone. -/
theorem SlIs.turn {w w' : World} {g : Nat} {v v' : Value} {s s' : SlS} (h : SlIs w g v s) (hT : Turn (g + 1) (slObj g v' s') w w') (hl : s'.ls = s.ls) (hv : v' = v) (hq : s'.q = s.q) (hk : s'.Ok) : SlIs w' g v' s' := by
  subst hv
  refine ⟨hT.blk, ?_, ?_, hk⟩
  · rw [hl]; exact hT.keep h.r (by omega)
  · rw [hq]; exact ownsRow_turn h.o hT (by omega)
theorem SlStep.turn {w w' : World} {g : Nat} {v : Value} {s s' : SlS} (h : SlIs w g v s) (hT : Turn (g + 1) (slObj g v s') w w') (hl : s'.ls = s.ls) (hq : s'.q = s.q) (hk : s'.Ok) : SlStep g v v s' w w' :=
  ⟨hT.os, hT.tape, hT.output, hT.size, h.turn hT hl rfl hq hk, fun k hk2 h1 h2 _ => hT.other k hk2 h2, .inl rfl⟩
set_option maxHeartbeats 800000 in
theorem step_any (g : Nat) (v : Value) (s : SlS) (w : World) (h : SlIs w g v s) (hst : s.st + 1 ≤ 1000000) :
    Calls Try.prog 43 #[slP g] w fun r w' => r = .returned (.int .i64 (stepE s)) ∧ SlStep g v v (stepS s) w w' := by
  have H := Lib.hid h
  have hsr := h.k.sr
  have hfr := h.k.fr
  obtain ⟨⟨c0, c1, c2, c3, c4⟩, hf⟩ := h.cells
  have hf2 := hf 2
  have hf3 := hf 3
  have hf4 := hf 4
  have hlt := h.lt
  clear hf h
  by_cases h0 : s.fu = 0
  · have HE : Hid (stepE s = 5) := by unfold Hid stepE; rw [if_pos h0]
    have hS : stepS s = { s with dn := true } := by unfold stepS; rw [if_pos h0]
    have HT : Hid (SlStep g v v (stepS s) w (w.setCell ⟨g + 1, 4, none⟩ (.bool true))) := by
      rw [hS]
      exact SlStep.turn H.out (((Turn.same H.out.b).set 4 (.bool true)).as rfl) rfl rfl ⟨H.out.k.n1, H.out.k.ll, H.out.k.lb, H.out.k.qq, H.out.k.sr, H.out.k.fr⟩
    clear hS
    rw [h0] at c3
    clear h0
    go_enter Try.func43, Try.ntmps43
    go_wp2_with fail
    go_ret
    exact ⟨reti HE.out.symm, HT.out⟩
  · have HE : Hid (stepE s = 0) := by unfold Hid stepE; rw [if_neg h0]
    by_cases h1 : 0 < s.fu
    · have hS : stepS s = { s with fu := s.fu - 1, st := s.st + 1 } := by unfold stepS; rw [if_neg h0, if_pos h1]
      have HT : Hid (SlStep g v v (stepS s) w ((w.setCell ⟨g + 1, 3, none⟩ (.int .i64 (s.fu - 1))).setCell ⟨g + 1, 2, none⟩ (.int .i64 (s.st + 1)))) := by
        rw [hS]
        exact SlStep.turn H.out ((((Turn.same H.out.b).set 3 (.int .i64 (s.fu - 1))).set 2 (.int .i64 (s.st + 1))).as rfl) rfl rfl ⟨H.out.k.n1, H.out.k.ll, H.out.k.lb, H.out.k.qq, (show 0 ≤ s.st + 1 ∧ s.st + 1 ≤ 1000000 by omega), (show -9223372036854775808 ≤ s.fu - 1 ∧ s.fu - 1 ≤ 9223372036854775807 by omega)⟩
      clear hS
      go_enter Try.func43, Try.ntmps43
      go_wp2_with fail
      go_ret
      exact ⟨reti HE.out.symm, HT.out⟩
    · have hS : stepS s = { s with st := s.st + 1 } := by unfold stepS; rw [if_neg h0, if_neg h1]
      have HT : Hid (SlStep g v v (stepS s) w (w.setCell ⟨g + 1, 2, none⟩ (.int .i64 (s.st + 1)))) := by
        rw [hS]
        exact SlStep.turn H.out (((Turn.same H.out.b).set 2 (.int .i64 (s.st + 1))).as rfl) rfl rfl ⟨H.out.k.n1, H.out.k.ll, H.out.k.lb, H.out.k.qq, (show 0 ≤ s.st + 1 ∧ s.st + 1 ≤ 1000000 by omega), H.out.k.fr⟩
      clear hS
      go_enter Try.func43, Try.ntmps43
      go_wp2_with fail
      go_ret
      exact ⟨reti HE.out.symm, HT.out⟩
theorem fuse_nil (n : Int) (w : World) : Calls Try.prog 18 #[.pointer none, .int .i64 n] w fun r w' => r = .returned (.int .i64 2) ∧ w = w' := by
  go_enter Try.func18, Try.ntmps18
  go_wp2_with fail
  refine (powered_nil _).mono ?_
  rintro r w1 ⟨rfl, rfl⟩
  go_wp2_with fail
  go_ret
  exact ⟨rfl, rfl⟩
def fuseS (s : SlS) (n : Int) : SlS := if s.dn then s else { s with fu := n }
set_option maxHeartbeats 800000 in
theorem fuse_any (g : Nat) (v : Value) (s : SlS) (n : Int) (w : World) (h : SlIs w g v s) (hn : -9223372036854775808 ≤ n ∧ n ≤ 9223372036854775807) :
    Calls Try.prog 18 #[slP g, .int .i64 n] w fun r w' => r = .returned (.int .i64 (if s.dn then 5 else 0)) ∧ SlStep g v v (fuseS s n) w w' := by
  have H := Lib.hid h
  obtain ⟨⟨c0, c1, c2, c3, c4⟩, hf⟩ := h.cells
  have hf3 := hf 3
  have hlt := h.lt
  clear hf h
  cases hd : s.dn with
  | true =>
    have HT : Hid (SlStep g v v (fuseS s n) w w) := by
      have : fuseS s n = s := by unfold fuseS; rw [hd]; rfl
      rw [this]
      exact SlStep.same H.out (Below.refl _ _)
    have HD := Lib.hid hd
    clear hd
    go_enter Try.func18, Try.ntmps18
    go_wp2_with fail
    refine (powered_any g v s _ H.out).mono ?_
    rintro r w1 ⟨rfl, rfl⟩
    rw [HD.out]
    go_wp2_with fail
    go_ret
    exact ⟨rfl, HT.out⟩
  | false =>
    have HT : Hid (SlStep g v v (fuseS s n) w (w.setCell ⟨g + 1, 3, none⟩ (.int .i64 n))) := by
      have : fuseS s n = { s with fu := n } := by unfold fuseS; rw [hd]; rfl
      rw [this]
      exact SlStep.turn H.out (((Turn.same H.out.b).set 3 (.int .i64 n)).as rfl) rfl rfl ⟨H.out.k.n1, H.out.k.ll, H.out.k.lb, H.out.k.qq, H.out.k.sr, hn⟩
    have HD := Lib.hid hd
    clear hd hn
    go_enter Try.func18, Try.ntmps18
    go_wp2_with fail
    refine (powered_any g v s _ H.out).mono ?_
    rintro r w1 ⟨rfl, rfl⟩
    rw [HD.out]
    go_wp2_with fail
    go_ret
    exact ⟨rfl, HT.out⟩
theorem sectors_nil (w : World) : Calls Try.prog 20 #[.pointer none] w fun r w' => r = .returned (.int .i64 0) ∧ w = w' := by
  go_enter Try.func20, Try.ntmps20
  go_wp2_with fail
  go_ret
  exact ⟨rfl, rfl⟩
theorem loose_nil (w : World) : Calls Try.prog 21 #[.pointer none] w fun r w' => r = .returned (.int .i64 0) ∧ w = w' := by
  go_enter Try.func21, Try.ntmps21
  go_wp2_with fail
  go_ret
  exact ⟨rfl, rfl⟩
theorem steps_nil (w : World) : Calls Try.prog 22 #[.pointer none] w fun r w' => r = .returned (.int .i64 0) ∧ w = w' := by
  go_enter Try.func22, Try.ntmps22
  go_wp2_with fail
  go_ret
  exact ⟨rfl, rfl⟩
theorem down_nil (w : World) : Calls Try.prog 23 #[.pointer none] w fun r w' => r = .returned (.bool false) ∧ w = w' := by
  go_enter Try.func23, Try.ntmps23
  go_wp2_with fail
  go_ret
  exact ⟨rfl, rfl⟩
theorem flush_nil (w : World) : Calls Try.prog 17 #[.pointer none] w fun r w' => r = .returned (.int .i64 2) ∧ w = w' := by
  go_enter Try.func17, Try.ntmps17
  go_wp2_with fail
  refine (powered_nil _).mono ?_
  rintro r w1 ⟨rfl, rfl⟩
  go_wp2_with fail
  go_ret
  exact ⟨rfl, rfl⟩
theorem crash_nil (a b : Int) (w : World) : Calls Try.prog 19 #[.pointer none, .int .i64 a, .int .i64 b] w fun r w' => r = .returned (.int .i64 2) ∧ w = w' := by
  go_enter Try.func19, Try.ntmps19
  go_wp2_with fail
  go_ret
  exact ⟨rfl, rfl⟩
theorem sectors_any (g : Nat) (v : Value) (s : SlS) (w : World) (h : SlIs w g v s) : Calls Try.prog 20 #[slP g] w fun r w' => r = .returned (.int .i64 s.n) ∧ w = w' := by
  obtain ⟨⟨c0, c1, c2, c3, c4⟩, -⟩ := h.cells
  clear h
  go_enter Try.func20, Try.ntmps20
  go_wp2_with fail
  go_ret
  exact ⟨rfl, rfl⟩
theorem steps_any (g : Nat) (v : Value) (s : SlS) (w : World) (h : SlIs w g v s) : Calls Try.prog 22 #[slP g] w fun r w' => r = .returned (.int .i64 s.st) ∧ w = w' := by
  obtain ⟨⟨c0, c1, c2, c3, c4⟩, -⟩ := h.cells
  clear h
  go_enter Try.func22, Try.ntmps22
  go_wp2_with fail
  go_ret
  exact ⟨rfl, rfl⟩
theorem down_any (g : Nat) (v : Value) (s : SlS) (w : World) (h : SlIs w g v s) : Calls Try.prog 23 #[slP g] w fun r w' => r = .returned (.bool s.dn) ∧ w = w' := by
  obtain ⟨⟨c0, c1, c2, c3, c4⟩, -⟩ := h.cells
  clear h
  go_enter Try.func23, Try.ntmps23
  go_wp2_with fail
  go_ret
  exact ⟨rfl, rfl⟩
/-- The writes' row is a slice. -/
theorem SlIs.slice {w : World} {g : Nat} {v : Value} {s : SlS} (h : SlIs w g v s) : ∃ a c, v = .slice a s.q.length c := by
  rcases h.o.2 with ⟨rfl, hn⟩ | ⟨g', cap, cur, rfl, _⟩
  · exact ⟨none, 0, by rw [hn]⟩
  · exact ⟨_, cap, rfl⟩
theorem loose_any (g : Nat) (v : Value) (s : SlS) (w : World) (h : SlIs w g v s) : Calls Try.prog 21 #[slP g] w fun r w' => r = .returned (.int .i64 s.q.length) ∧ w = w' := by
  obtain ⟨⟨c0, c1, c2, c3, c4⟩, -⟩ := h.cells
  obtain ⟨a, c, rfl⟩ := h.slice
  clear h
  generalize s.q.length = m at *
  go_enter Try.func21, Try.ntmps21
  go_wp2_with fail
  go_ret
  exact ⟨rfl, rfl⟩
end Go.Proofs.Ytgikedbnnlckjaa
