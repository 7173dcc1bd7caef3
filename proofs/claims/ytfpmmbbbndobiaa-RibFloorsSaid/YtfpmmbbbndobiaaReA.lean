/-
  What one neighbour offers stays: the calls.
-/
import Derived.Test.YtfpmmbbbndobiaaRbZ
namespace Go.Proofs.Ytfpmmbbbndobiaa
open Go.RowKit

/-- A table in new memory, with its paths. -/
structure OwnP (w : World) (t : Nat) (T : TB) (w' : World) : Prop where
  own : Own w t T w'
  paths : PathsIn w' t T
theorem OwnP.more {w w1 w2 : World} {t : Nat} {T : TB} (h : OwnP w t T w1) (k : Below w1.heap.size w1 w2) : OwnP w t T w2 := ⟨h.own.more k, h.paths.keep k⟩
theorem ownp_new {w w1 : World} {t : Nat} {s h l : Int} (H : Own w t (tb0 s h l) w1) : OwnP w t (tb0 s h l) w1 := ⟨H, fun _ => ⟨[], path_nil _ _ _ _⟩⟩
theorem ownp_first {w w1 : World} {t g : Nat} {h l : Int} {k : K3} (hg : 1 ≤ g ∧ g < 8) (hk : krB k = true) (H : OwnP w t (tb0 0 h l) w1) : Calls Try.prog 36 #[.pointer (some ⟨t, 0, none⟩), .int .i64 0, .int .i64 g, keyV k] w1 fun r w' => (∃ x : Int, r = .returned (.tuple #[.int .i64 x, .int .i64 0])) ∧ ∃ T, Apart g k h T ∧ OwnP w t T w' := by
  refine (loffer_any (tb0 0 h l) 0 g k t w1 H.own.blk H.own.wy).mono ?_
  rintro r w2 ⟨rfl, hT⟩
  obtain ⟨e, hA⟩ := apart_first h l k g hg hk
  rw [e]
  exact ⟨⟨_, rfl⟩, _, hA, H.own.step hT (ofV_ways H.own.wy _ _ _).1, (H.paths.turn hT).of 0 g (kn0 2 k) (path_nil _ _ _ _)⟩
theorem ownp_offer {w w1 : World} {t g : Nat} {T : TB} {h now f : Int} {k : K3} {x : KV} {fl : K3} {p : List Int} (hg : g < 8) (hx : x.d = 2) (hf : f ≠ g) (hp : PathOK w1 t x p) (A : Apart g k h T) (H : OwnP w t T w1) : Calls Try.prog 14 #[.pointer (some ⟨t, 0, none⟩), .int .i64 now, .int .i64 f, .agg (knc x).toArray, keyV fl, .bool false] w1 fun r w' => (∃ a b : Int, r = .returned (.tuple #[.int .i64 a, .int .i64 b])) ∧ (∃ T, Apart g k h T ∧ OwnP w t T w') ∧ ∀ b o, Blk w1 b o → b ≠ t → Blk w' b o := by
  refine (offers_any T now f x fl t w1 H.own.blk H.own.wy x.pn p ⟨hp.1, hp.2.1⟩).mono ?_
  rintro r w2 hh
  rcases hh with ⟨⟨rfl, hT⟩, _⟩ | ⟨a, c, ⟨rfl, hT⟩, hr⟩
  · exact ⟨⟨_, _, rfl⟩, ⟨_, A.of hg now f x hx hf, H.own.step hT (ofV_ways H.own.wy _ _ _).1, (H.paths.turn hT).of now f x (hp.turn hT)⟩, fun b o hb hne => hT.keep hb hne⟩
  · obtain ⟨hB, hn, hl⟩ := hp.1.row
    obtain ⟨y, hy⟩ : ∃ y : KV, y = { x with pa := a, pn := x.pn, pc := c } := ⟨_, rfl⟩
    have hpy : PathOK w2 t y p := by rw [hy]; exact PathOK.ofRow (x := x) hB hp.2.1 hl H.own.blk.lt hr
    rw [← hy] at hT ⊢
    exact ⟨⟨_, _, rfl⟩, ⟨_, A.of hg now f y (by rw [hy]; exact hx) hf, H.own.step hT (ofV_ways H.own.wy _ _ _).1, (H.paths.turn hT).of now f y hpy⟩, fun b o hb hne => hT.keep hb hne⟩
theorem ownp_break {w w1 : World} {t g : Nat} {T : TB} {h now f : Int} {k : K3} (hg : g < 8) (hf : f ≠ g) (ht : tmB now = true) (hh : 0 ≤ h ∧ h ≤ 1048576) (A : Apart g k h T) (H : OwnP w t T w1) : Calls Try.prog 19 #[.pointer (some ⟨t, 0, none⟩), .int .i64 now, .int .i64 f] w1 fun r w' => (∃ a n c, r = .returned (.slice a n c)) ∧ ∃ T, Apart g k h T ∧ OwnP w t T w' := by
  refine (break_any T now f t w1 H.own.blk ht (by rw [A.hold]; exact hh) H.own.wy).mono ?_
  rintro r w2 ⟨v, rfl, ho, hT⟩
  obtain ⟨a, c, rfl⟩ := row_slice ho
  exact ⟨⟨a, _, c, rfl⟩, _, A.drop hg H.own.wy _ f hf, H.own.step hT (dropD_ways H.own.wy _ _ (Nat.le_refl 8)), (H.paths.turn hT).drop _ _ _⟩
theorem ownp_get {w w1 : World} {t g : Nat} {T : TB} {h : Int} {k : K3} (hg : g < 8) (A : Apart g k h T) (H : OwnP w t T w1) : Calls Try.prog 24 #[.pointer (some ⟨t, 0, none⟩), .int .i64 2] w1 fun r w' => (∃ (kk : K3) (n s : Int) (y : KV), r = .returned (.tuple #[.agg (rtc 2 kk n true s y).toArray, .bool true]) ∧ 0 ≤ cmpK kk k) ∧ OwnP w t T w' := by
  obtain ⟨h1, h2⟩ := A.lk hg
  obtain ⟨p, hp⟩ := H.paths (2 * 8 + (T.way 2).toNat)
  refine (get_yes T t 2 p w1 H.own.blk H.own.wy h1 hp).mono ?_
  rintro r w2 ⟨a, c, rfl, _, hb⟩
  exact ⟨⟨_, _, _, _, rfl, h2⟩, H.more hb⟩
end Go.Proofs.Ytfpmmbbbndobiaa
