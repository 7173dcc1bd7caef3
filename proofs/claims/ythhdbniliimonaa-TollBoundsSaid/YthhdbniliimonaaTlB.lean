/-
  The contracts of the toll's steps: Tick, Frame, Hold, Settle, Left.
-/
import Derived.Test.YthhdbniliimonaaTlA
namespace Go.Proofs.Ythhdbniliimonaa
open Go.RowKit

/-- A toll: its rates, what is left, what is owed. -/
structure TS where
  (a b c d f g o : Int)
def TS.obj (s : TS) : Obj := tollObj s.a s.b s.c s.d s.f s.g s.o
def tickE (n : Int) : Int := if n < 0 then 1 else 0
def tickS (s : TS) (n : Int) : TS := if n < 0 then s else { s with f := fillV s.f s.a s.b n, g := fillV s.g s.c s.d n }
def frameE (s : TS) (n : Int) : Int := if n < 0 then 1 else if s.f = 0 ∨ s.g < n then 26 else 0
def frameS (s : TS) (n : Int) : TS := if frameE s n = 0 then { s with f := wrap64 (s.f - 1), g := wrap64 (s.g - n) } else s
def holdE (s : TS) (n : Int) : Int := if n < 0 then 1 else if s.g < n then 26 else 0
def holdS (s : TS) (n : Int) : TS := if holdE s n = 0 then { s with g := wrap64 (s.g - n), o := wrap64 (s.o + n) } else s
def settleE (s : TS) (n : Int) : Int := if n < 0 then 1 else if s.o < n then 1 else 0
def settleS (s : TS) (n : Int) : TS := if settleE s n = 0 then { s with g := min (wrap64 (wrap64 (s.g + s.o) - n)) s.c, o := 0 } else s
/-- A step: its answer, and the toll behind it. -/
def TPost (b : Nat) (x : Int) (s : TS) (w : World) (e : Ending) (w' : World) : Prop := e = .returned (.int .i64 x) ∧ Turn b s.obj w w'

theorem left_any (b : Nat) (s : TS) (w : World) (h : Blk w b s.obj) :
    Calls Try.prog 21 #[.pointer (some ⟨b, 0, none⟩)] w fun r w' => r = .returned (.tuple #[.int .i64 s.f, .int .i64 s.g]) ∧ ∃ n, w' = w.drewN n := by
  obtain ⟨c0, c1, c2, c3, c4, c5, c6, -⟩ := Blk.seven h
  clear h
  go_enter Try.func21, Try.ntmps21
  go_wp2_with fail
  go_quiet (fail)
  go_wp2_with fail
  go_ret2
  exact ⟨rfl, _, rfl⟩
theorem left_nil (w : World) : Calls Try.prog 21 #[.pointer none] w fun r w' => r = .returned (.tuple #[.int .i64 0, .int .i64 0]) ∧ w = w' := by
  go_enter Try.func21, Try.ntmps21
  go_wp2_with fail
  go_ret2
  exact ⟨rfl, rfl⟩
set_option maxHeartbeats 1600000 in
theorem frame_any (b : Nat) (s : TS) (n : Int) (w : World) (h : Blk w b s.obj) :
    Calls Try.prog 16 #[.pointer (some ⟨b, 0, none⟩), .int .i64 n] w (TPost b (frameE s n) (frameS s n) w) := by
  obtain ⟨a, b1, c, d, f, g, o⟩ := s
  obtain ⟨c0, c1, c2, c3, c4, c5, c6, f4, f5, f6⟩ := Blk.seven h
  have HB := Kp.mk h
  clear h
  by_cases hn : n < 0
  · have HE : Kp (frameE ⟨a, b1, c, d, f, g, o⟩ n = 1 ∧ frameS ⟨a, b1, c, d, f, g, o⟩ n = ⟨a, b1, c, d, f, g, o⟩) := ⟨by simp [frameE, frameS, hn]⟩
    go_enter Try.func16, Try.ntmps16
    go_wp2_with fail
    refine (wrong_no b n hn _).mono ?_
    rintro r w1 ⟨rfl, rfl⟩
    go_wp2_with fail
    go_ret
    exact ⟨reti HE.out.1.symm, by rw [HE.out.2]; exact Turn.same HB.out⟩
  · have hn' : 0 ≤ n := by omega
    by_cases hf : f = 0 ∨ g < n
    · have HE : Kp (frameE ⟨a, b1, c, d, f, g, o⟩ n = 26 ∧ frameS ⟨a, b1, c, d, f, g, o⟩ n = ⟨a, b1, c, d, f, g, o⟩) := ⟨by simp [frameE, frameS, hn, hf]⟩
      have t0 : (f == 0) = true ∨ (f == 0) = false ∧ g < n := by
        by_cases h : f = 0
        · exact .inl (by simp [h])
        · exact .inr ⟨by simp [h], by omega⟩
      clear hf hn
      rcases t0 with t0 | ⟨t0, t1⟩
      all_goals
        go_enter Try.func16, Try.ntmps16
        go_wp2_with fail
        refine (wrong_yes b n hn' _).mono ?_
        rintro r w1 ⟨rfl, rfl⟩
        go_wp2_with fail
        go_ret
        exact ⟨reti HE.out.1.symm, by rw [HE.out.2]; exact Turn.same HB.out⟩
    · have HE : Kp (frameE ⟨a, b1, c, d, f, g, o⟩ n = 0 ∧ frameS ⟨a, b1, c, d, f, g, o⟩ n = ⟨a, b1, c, d, wrap64 (f - 1), wrap64 (g - n), o⟩) := ⟨by simp [frameE, frameS, hn, hf]⟩
      have t0 : (f == 0) = false := by simp; omega
      have t1 : n ≤ g := by omega
      clear hf hn
      go_enter Try.func16, Try.ntmps16
      go_wp2_with fail
      refine (wrong_yes b n hn' _).mono ?_
      rintro r w1 ⟨rfl, rfl⟩
      go_wp2_with fail
      go_ret
      exact ⟨reti HE.out.1.symm, by rw [HE.out.2]; exact (((Turn.same HB.out).set 4 _).set 5 _).as rfl⟩
set_option maxHeartbeats 1600000 in
theorem hold_any (b : Nat) (s : TS) (n : Int) (w : World) (h : Blk w b s.obj) :
    Calls Try.prog 18 #[.pointer (some ⟨b, 0, none⟩), .int .i64 n] w (TPost b (holdE s n) (holdS s n) w) := by
  obtain ⟨a, b1, c, d, f, g, o⟩ := s
  obtain ⟨c0, c1, c2, c3, c4, c5, c6, f4, f5, f6⟩ := Blk.seven h
  have HB := Kp.mk h
  clear h
  by_cases hn : n < 0
  · have HE : Kp (holdE ⟨a, b1, c, d, f, g, o⟩ n = 1 ∧ holdS ⟨a, b1, c, d, f, g, o⟩ n = ⟨a, b1, c, d, f, g, o⟩) := ⟨by simp [holdE, holdS, hn]⟩
    go_enter Try.func18, Try.ntmps18
    go_wp2_with fail
    refine (wrong_no b n hn _).mono ?_
    rintro r w1 ⟨rfl, rfl⟩
    go_wp2_with fail
    go_ret
    exact ⟨reti HE.out.1.symm, by rw [HE.out.2]; exact Turn.same HB.out⟩
  · have hn' : 0 ≤ n := by omega
    by_cases hf : g < n
    · have HE : Kp (holdE ⟨a, b1, c, d, f, g, o⟩ n = 26 ∧ holdS ⟨a, b1, c, d, f, g, o⟩ n = ⟨a, b1, c, d, f, g, o⟩) := ⟨by simp [holdE, holdS, hn, hf]⟩
      clear hn
      go_enter Try.func18, Try.ntmps18
      go_wp2_with fail
      refine (wrong_yes b n hn' _).mono ?_
      rintro r w1 ⟨rfl, rfl⟩
      go_wp2_with fail
      go_ret
      exact ⟨reti HE.out.1.symm, by rw [HE.out.2]; exact Turn.same HB.out⟩
    · have HE : Kp (holdE ⟨a, b1, c, d, f, g, o⟩ n = 0 ∧ holdS ⟨a, b1, c, d, f, g, o⟩ n = ⟨a, b1, c, d, f, wrap64 (g - n), wrap64 (o + n)⟩) := ⟨by simp [holdE, holdS, hn, hf]⟩
      have t1 : n ≤ g := by omega
      clear hf hn
      go_enter Try.func18, Try.ntmps18
      go_wp2_with fail
      refine (wrong_yes b n hn' _).mono ?_
      rintro r w1 ⟨rfl, rfl⟩
      go_wp2_with fail
      go_ret
      exact ⟨reti HE.out.1.symm, by rw [HE.out.2]; exact (((Turn.same HB.out).set 5 _).set 6 _).as rfl⟩
theorem tolls_nil (n : Int) (w : World) :
    Calls Try.prog 14 #[.pointer none, .int .i64 n] w (fun r w' => r = .returned (.int .i64 2) ∧ w = w') ∧
    Calls Try.prog 16 #[.pointer none, .int .i64 n] w (fun r w' => r = .returned (.int .i64 2) ∧ w = w') ∧
    Calls Try.prog 18 #[.pointer none, .int .i64 n] w (fun r w' => r = .returned (.int .i64 2) ∧ w = w') ∧
    Calls Try.prog 20 #[.pointer none, .int .i64 n] w (fun r w' => r = .returned (.int .i64 2) ∧ w = w') := by
  refine ⟨?_, ?_, ?_, ?_⟩
  · go_enter Try.func14, Try.ntmps14
    go_wp2_with fail
    refine (wrong_nil n _).mono ?_
    rintro r w1 ⟨rfl, rfl⟩
    go_wp2_with fail
    go_ret
    exact ⟨rfl, rfl⟩
  · go_enter Try.func16, Try.ntmps16
    go_wp2_with fail
    refine (wrong_nil n _).mono ?_
    rintro r w1 ⟨rfl, rfl⟩
    go_wp2_with fail
    go_ret
    exact ⟨rfl, rfl⟩
  · go_enter Try.func18, Try.ntmps18
    go_wp2_with fail
    refine (wrong_nil n _).mono ?_
    rintro r w1 ⟨rfl, rfl⟩
    go_wp2_with fail
    go_ret
    exact ⟨rfl, rfl⟩
  · go_enter Try.func20, Try.ntmps20
    go_wp2_with fail
    refine (wrong_nil n _).mono ?_
    rintro r w1 ⟨rfl, rfl⟩
    go_wp2_with fail
    go_ret
    exact ⟨rfl, rfl⟩
end Go.Proofs.Ythhdbniliimonaa
