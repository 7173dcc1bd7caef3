/-
  The contracts of Lay, U16, Bytes, and of the document's example.
-/
import Derived.Test.YtioeaknhcfkfcaaOutB
namespace Go.Proofs.Ytioeaknhcfkfcaa
open Go.RowKit

theorem lay_any (w : World) : Calls Try.prog 24 #[] w fun r w' => r = .returned (.pointer (some ⟨w.heap.size, 0, none⟩)) ∧ w.alloc (outObj (.slice none 0 0) false) = w' := by
  go_enter Try.func24, Try.ntmps24
  go_wp2_with fail
  go_ret
  exact ⟨rfl, rfl⟩
theorem OutIs.laid (w : World) : OutIs (w.alloc (outObj (.slice none 0 0) false)) w.heap.size (.slice none 0 0) [] false := ⟨Blk.new _ _, World.ownsRow_nil _ _ _ _, Bytes.nil⟩

theorem u16o_any (O : Nat) (v : Value) (l : List Int) (f : Bool) (n : Int) (w : World) (h : OutIs w O v l f) (hn0 : 0 ≤ n) (hn1 : n < 18446744073709551616) (hlen : l.length ≤ 1000000000000) :
    Calls Try.prog 72 #[.pointer (some ⟨O, 0, none⟩), .int .u64 n] w (NumPost O v l f n 2 w) := by
  go_enter Try.func72, Try.ntmps72
  go_wp2_with fail
  refine (number_2 O v l f n _ h hn0 hn1 hlen).mono ?_
  rintro r w1 ⟨rfl, h1⟩
  go_wp2_with fail
  go_end0
  exact ⟨rfl, h1⟩

/-- What Bytes answers. -/
def BytesPost (l : List Int) (f : Bool) (w : World) (r : Ending) (w' : World) : Prop :=
  ∃ v, r = .returned (.tuple #[v, .int .i64 (if f then 8 else 0)]) ∧ w'.ownsRow w.heap.size 5 1 v (if f then [] else l).length (bv (if f then [] else l)) ∧ Below w.heap.size w w'
set_option maxHeartbeats 800000 in
theorem bytes_any (O : Nat) (v : Value) (l : List Int) (f : Bool) (w : World) (h : OutIs w O v l f) (hlen : l.length ≤ 1099511627776) :
    Calls Try.prog 29 #[.pointer (some ⟨O, 0, none⟩)] w (BytesPost l f w) := by
  have H := Lib.hid h
  obtain ⟨c0, c1, -⟩ := h.blk.two
  obtain ⟨a, n, cap, rfl⟩ := h.shape
  clear h
  cases f with
  | true =>
    have HP : Hid (BytesPost l true w (.returned (.tuple #[.slice none 0 0, .int .i64 8])) w) := ⟨_, rfl, World.ownsRow_nil _ _ _ _, Below.refl _ _⟩
    go_enter Try.func29, Try.ntmps29
    go_wp2_with fail
    go_ret2
    exact HP.out
  | false =>
    have HP : Hid (∀ v w', w'.ownsRow w.heap.size 5 1 v l.length (bv l) → Below w.heap.size w w' → BytesPost l false w (.returned (.tuple #[v, .int .i64 0])) w') := fun v w' h1 h2 => ⟨v, rfl, h1, h2⟩
    go_enter Try.func29, Try.ntmps29
    go_wp2_with fail
    refine (clone_any _ _ l _ H.out.holds (by omega)).mono ?_
    rintro r w1 ⟨v1, rfl, h1, h2⟩
    go_wp2_with fail
    go_ret2
    exact HP.out _ _ h1 h2

/-- From a step on an Out in a new block. -/
theorem OutStep.belowNew {w w1 w2 : World} {O : Nat} {v v1 : Value} {l : List Int} {f : Bool} {B : Nat} (h : OutStep O v v1 l f w1 w2) (hb : Below B w w1) (hO : B ≤ O) (hv : ∀ k, v.ownBlock = some k → B ≤ k) (hs : B ≤ w1.heap.size) : Below B w w2 :=
  hb.trans ⟨h.os, h.tape, h.output, h.size, fun k hk => h.other k (by omega) (by omega) (fun e => by have := hv k e; omega)⟩

end Go.Proofs.Ytioeaknhcfkfcaa
