/-
  What the laws on In begin with: In in a new block, its bytes in another one.
-/
import Derived.Test.YtgpjffchpppceaaTakes6
import Derived.Test.YtgpjffchpppceaaItems
import Derived.Test.YtgpjffchpppceaaAwake
namespace Go.Proofs.Ytgpjffchpppceaa
open Go.RowKit

theorem HoldsB.ofRowM {w : World} {base M : Nat} {v : Value} {l : List Int} (h7 : Bytes l) (h : w.ownsRow base 5 1 v l.length (bv l)) (hM : ∀ k, v.ownBlock = some k → k < M) : HoldsB w M v l := by
  obtain ⟨a, cap, h1, h2, h3, h4, h5, h6, h8⟩ := HoldsB.ofRow h7 h
  refine ⟨a, cap, h1, h2, h3, h4, fun x hx h0 => ⟨(h5 x hx h0).1, hM x.block (by rw [h1, hx]; rfl), (h5 x hx h0).2.2⟩, h6, h8⟩

def TakePost (l : List Int) (w : World) (r : Ending) (w' : World) : Prop :=
  ∃ I v, r = .returned (.pointer (some ⟨I, 0, none⟩)) ∧ w.heap.size ≤ I ∧ Blk w' I (inObj v 0) ∧ w'.ownsRow w.heap.size 5 1 v l.length (bv l) ∧ (∀ k, v.ownBlock = some k → k < I) ∧ Below w.heap.size w w'
set_option maxHeartbeats 800000 in
theorem take_row (M : Nat) (v : Value) (l : List Int) (w : World) (h : HoldsB w M v l) (hr : l.length ≤ 140737488351232) :
    Calls Try.prog 13 #[v] w (TakePost l w) := by
  have HH := Lib.hid h
  obtain ⟨a, n, cap, rfl, hn⟩ := h.slice
  clear h hn
  go_enter Try.func13, Try.ntmps13
  go_wp2_with fail
  refine (clone_any M _ l _ HH.out hr).mono ?_
  rintro r w1 ⟨v, rfl, ho, hb⟩
  have HO := Lib.hid ho
  have HB := Lib.hid hb
  have hsh : ∃ a n c, v = .slice a n c := by
    rcases ho.2 with ⟨rfl, _⟩ | ⟨g, cap, cur, rfl, _⟩ <;> exact ⟨_, _, _, rfl⟩
  obtain ⟨a1, n1, cap1, rfl⟩ := hsh
  clear ho hb
  go_wp2_with fail
  go_ret
  exact ⟨w1.heap.size, _, rfl, HB.out.size, Blk.new _ _, HO.out.alloc _, fun k hk => (HO.out.lt k hk).2, more HB.out _⟩
theorem InIs.ofRow {w : World} {base I : Nat} {v : Value} {l : List Int} (hb : Blk w I (inObj v 0)) (h7 : Bytes l) (h : w.ownsRow base 5 1 v l.length (bv l)) (hM : ∀ k, v.ownBlock = some k → k < I) : InIs w I I l 0 :=
  ⟨Nat.le_refl _, ⟨v, HoldsB.ofRowM h7 h hM, hb⟩, fun h => absurd rfl h⟩

/-- A byte of a row turned. -/
theorem bytes_turn {w : World} {base g n cap : Nat} {ys : List Int} (h : w.ownsRow base 5 1 (.slice (some ⟨g, 0, none⟩) n cap) n (bv ys)) (j : Nat) (z : Int) : (w.setCell ⟨g, j, none⟩ (.int .u8 z)).ownsRow base 5 1 (.slice (some ⟨g, 0, none⟩) n cap) n (bv (ys.set j z)) := by
  have := (h.stored j (.int .u8 z)).1
  unfold bv
  rw [List.map_set]
  exact this

abbrev z45 : Obj := .cells #[.int .i64 0, .int .u64 0, .int .u8 0, .int .u8 0, .int .u8 0, .int .u8 0, .int .u8 0, .int .u8 0, .int .u8 0, .int .u8 0, .int .u8 0, .int .u8 0, .int .u8 0, .int .u8 0, .int .u8 0, .int .u8 0, .int .u8 0, .int .u8 0, .slice none 0 0, .slice none 0 0, .int .i64 0] 45
theorem info45' {C : List Value} (h : C.length = 21) : (Try.prog.info? 45).map (·.size) = some C.toArray.size := by
  have e : C.toArray.size = 21 := by simp [h]
  rw [e]
  exact info45
theorem infoL45 {C : List Value} (h : C.length = 21) : (Try.prog.info? 45).map (·.size) = some C.length := by rw [h]; exact info45
theorem size45 {C : List Value} (h : C.length = 21) : (#[.int .i64 0, .int .u64 0, .int .u8 0, .int .u8 0, .int .u8 0, .int .u8 0, .int .u8 0, .int .u8 0, .int .u8 0, .int .u8 0, .int .u8 0, .int .u8 0, .int .u8 0, .int .u8 0, .int .u8 0, .int .u8 0, .int .u8 0, .int .u8 0, .slice none 0 0, .slice none 0 0, .int .i64 0] : Array Value).size = C.toArray.size := by simp [h]
theorem all45 {C : List Value} (h : ∀ v ∈ C, v.oneCell' = true) : C.toArray.all (·.oneCell') = true := Array.all_eq_true_iff_forall_mem.2 fun v hv => h v (by simpa using hv)
theorem Bth.range {M I R at1 : Nat} {B l1 : List Int} {e1 e2 : Int} {w w1 : World} (h : Bth M I R B l1 e1 at1 e2 w w1) {b o : Nat} {C : List Value} (hc : w.rangeAt b o C) (hb : b < w.heap.size) (hI : b ≠ I) (hR : b ≠ R) : w1.rangeAt b o C :=
  fun j v hv => (World.cell?_of_block (w := w) (a := ⟨b, o + j, none⟩) (h.other b hb hI hR)).trans (hc j v hv)
theorem range_below {w w' : World} {b o B : Nat} {C : List Value} (hc : w.rangeAt b o C) (h : Below B w w') (hb : b < B) : w'.rangeAt b o C :=
  fun j v hv => (h.cell (p := ⟨b, o + j, none⟩) hb).trans (hc j v hv)
theorem Rel.start (z : List Int) : Rel z 0 z 0 := ⟨fun _ => rfl, fun h => absurd rfl h⟩
theorem Bth.trans {M I R at1 at2 : Nat} {B l1 l2 : List Int} {e1 e2 f1 f2 : Int} {w w1 w2 : World} (h : Bth M I R B l1 e1 at1 e2 w w1) (k : Bth M I R B l2 f1 at2 f2 w1 w2) : Bth M I R B l2 f1 at2 f2 w w2 :=
  ⟨k.i, k.r, k.os.trans h.os, k.tape.trans h.tape, k.output.trans h.output, Nat.le_trans h.size k.size, fun i hi h1 h2 => (k.other i (Nat.lt_of_lt_of_le hi h.size) h1 h2).trans (h.other i hi h1 h2)⟩
end Go.Proofs.Ytgpjffchpppceaa
