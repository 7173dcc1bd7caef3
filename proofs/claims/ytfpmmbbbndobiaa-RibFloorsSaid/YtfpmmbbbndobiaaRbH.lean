/-
  Break.
-/
import Derived.Test.YtfpmmbbbndobiaaRbG
namespace Go.Proofs.Ytfpmmbbbndobiaa
open Go.RowKit

theorem break_nil (now next : Int) (w : World) : Calls Try.prog 19 #[.pointer none, .int .i64 now, .int .i64 next] w fun r w' => r = .returned (.slice none 0 0) ∧ Below w.heap.size w w' := by
  have HB : Kp (∀ o, Below w.heap.size w (w.alloc o)) := ⟨fun o => more (Below.refl _ _) _⟩
  go_enter Try.func19, Try.ntmps19
  go_wp2_with fail
  refine (drop_nil _ now _).mono ?_
  rintro r w1 ⟨rfl, rfl⟩
  go_wp2_with fail
  go_ret
  exact ⟨rfl, HB.out _⟩
theorem break_time (now next : Int) (t : Nat) (w : World) (ht : tmB now = false) : Calls Try.prog 19 #[.pointer (some ⟨t, 0, none⟩), .int .i64 now, .int .i64 next] w fun r w' => r = .returned (.slice none 0 0) ∧ Below w.heap.size w w' := by
  have HB : Kp (∀ o, Below w.heap.size w (w.alloc o)) := ⟨fun o => more (Below.refl _ _) _⟩
  go_enter Try.func19, Try.ntmps19
  go_wp2_with fail
  refine (drop_time _ now t _ ht).mono ?_
  rintro r w1 ⟨rfl, rfl⟩
  go_wp2_with fail
  go_ret
  exact ⟨rfl, HB.out _⟩
theorem ownsRow_le {w : World} {base base' size n : Nat} {t : TypeId} {v : Value} {xs : List Value} (h : w.ownsRow base t size v n xs) (hb : base' ≤ base) : w.ownsRow base' t size v n xs := ownsRow_base h hb
theorem break_any (T : TB) (now next : Int) (t : Nat) (w : World) (h : Blk w t T.obj) (ht : tmB now = true) (hh : 0 ≤ T.hold ∧ T.hold ≤ 1048576) (hw : T.Ways) :
    Calls Try.prog 19 #[.pointer (some ⟨t, 0, none⟩), .int .i64 now, .int .i64 next] w (DropPost T now (isN next) t w) := by
  have HD := fun W h1 h2 => drop_break T now next t w.heap.size W h1 h2 ht hh hw
  have HB : Kp (Blk (w.alloc (.cells #[.int .i64 next] 3)) t T.obj ∧ Blk (w.alloc (.cells #[.int .i64 next] 3)) w.heap.size (.cells #[.int .i64 next] 3) ∧ Below w.heap.size w (w.alloc (.cells #[.int .i64 next] 3))) := ⟨h.old _, Blk.new _ _, more (Below.refl _ _) _⟩
  clear h ht hh hw
  go_enter Try.func19, Try.ntmps19
  go_wp2_with fail
  refine (HD _ HB.out.1 HB.out.2.1).mono ?_
  rintro r w1 ⟨v, rfl, ho, hT⟩
  have K := Kp.mk (And.intro (ownsRow_base (base' := w.heap.size) ho HB.out.2.2.size) (Turn.ahead HB.out.2.2 hT))
  clear ho hT HD
  go_wp2_with fail
  go_ret
  exact ⟨v, rfl, K.out.1, K.out.2⟩
end Go.Proofs.Ytfpmmbbbndobiaa
