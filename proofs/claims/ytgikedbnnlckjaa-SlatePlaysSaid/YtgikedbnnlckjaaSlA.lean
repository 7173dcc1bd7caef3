/-
  A device in memory, and its small calls.
-/
import Derived.Test.YtgikedbnnlckjaaMid
import Derived.Test.YtgikedbnnlckjaaAlloc
import Derived.Test.YtgikedbnnlckjaaFlowQ
namespace Go.Proofs.Ytgikedbnnlckjaa
open Go.RowKit

/-- A device: its sectors in one row, the writes that wait, the steps, the fuse, whether the power is gone. -/
structure SlS where
  n : Nat
  ls : List Int
  q : List (Nat × List Int)
  st : Int
  fu : Int
  dn : Bool
def wcells (x : Nat × List Int) : List Value := .int .i64 x.1 :: kv .u8 x.2
def qcells (q : List (Nat × List Int)) : List Value := (q.map wcells).flatten
structure SlS.Ok (s : SlS) : Prop where
  n1 : 1 ≤ s.n ∧ s.n ≤ 4096
  ll : s.ls.length = s.n * 64
  lb : Bytes s.ls
  qq : ∀ x ∈ s.q, x.1 < s.n ∧ x.2.length = 64 ∧ Bytes x.2
  sr : 0 ≤ s.st ∧ s.st ≤ 1000000
  fr : -9223372036854775808 ≤ s.fu ∧ s.fu ≤ 9223372036854775807
abbrev slObj (g : Nat) (v : Value) (s : SlS) : Obj := .cells #[.slice (some ⟨g, 0, none⟩) s.n s.n, v, .int .i64 s.st, .int .i64 s.fu, .bool s.dn] 72
/-- The device's own object lies in block g + 1, its sectors in block g, the writes that wait in v. -/
structure SlIs (w : World) (g : Nat) (v : Value) (s : SlS) : Prop where
  b : Blk w (g + 1) (slObj g v s)
  r : Row w g 35 .u8 s.ls
  o : w.ownsRow (g + 2) 82 65 v s.q.length (qcells s.q)
  k : s.Ok
abbrev slP (g : Nat) : Value := .pointer (some ⟨g + 1, 0, none⟩)
theorem SlIs.keep {w w' : World} {g : Nat} {v : Value} {s : SlS} (h : SlIs w g v s) (hb : Below w.heap.size w w') : SlIs w' g v s := ⟨h.b.keep hb, h.r.keep hb, ownsRow_below h.o hb, h.k⟩
theorem SlIs.alloc {w : World} {g : Nat} {v : Value} {s : SlS} (h : SlIs w g v s) (o : Obj) : SlIs (w.alloc o) g v s := h.keep (more (Below.refl _ _) _)
theorem SlIs.drew {w : World} {g : Nat} {v : Value} {s : SlS} (h : SlIs w g v s) : SlIs w.drew g v s := ⟨h.b, h.r, ownsRow_below (w' := w.drew) h.o ⟨rfl, rfl, rfl, Nat.le_refl _, fun _ _ => rfl⟩, h.k⟩
theorem SlIs.lt {w : World} {g : Nat} {v : Value} {s : SlS} (h : SlIs w g v s) : g + 1 < w.heap.size := h.b.lt
/-- A step on a device. -/
structure SlStep (g : Nat) (v v' : Value) (s' : SlS) (w w' : World) : Prop where
  os : w'.os = w.os
  tape : w'.tape = w.tape
  output : w'.output = w.output
  size : w.heap.size ≤ w'.heap.size
  is : SlIs w' g v' s'
  other : ∀ k, k < w.heap.size → k ≠ g → k ≠ g + 1 → v.ownBlock ≠ some k → w'.heap[k]? = w.heap[k]?
  own : v'.ownBlock = v.ownBlock ∨ ∀ k, v'.ownBlock = some k → w.heap.size ≤ k
theorem SlStep.same {g : Nat} {v : Value} {s : SlS} {w w' : World} (h : SlIs w g v s) (hb : Below w.heap.size w w') : SlStep g v v s w w' :=
  ⟨hb.os, hb.tape, hb.output, hb.size, h.keep hb, fun k hk _ _ _ => hb.block k hk, .inl rfl⟩
theorem SlStep.below {g B : Nat} {v v' : Value} {s' : SlS} {w w' : World} (h : SlStep g v v' s' w w') (hB : B ≤ g) (hs : B ≤ w.heap.size) (hv : ∀ k, v.ownBlock = some k → B ≤ k) : Below B w w' :=
  ⟨h.os, h.tape, h.output, h.size, fun k hk => h.other k (by omega) (by omega) (by omega) (fun e => by have := hv k e; omega)⟩
theorem SlStep.trans {g : Nat} {v v1 v2 : Value} {s1 s2 : SlS} {w w1 w2 : World} (h : SlStep g v v1 s1 w w1) (k : SlStep g v1 v2 s2 w1 w2) : SlStep g v v2 s2 w w2 := by
  refine ⟨k.os.trans h.os, k.tape.trans h.tape, k.output.trans h.output, Nat.le_trans h.size k.size, k.is, fun i hi h1 h2 h3 => ?_, ?_⟩
  · refine (k.other i (Nat.lt_of_lt_of_le hi h.size) h1 h2 (fun e => ?_)).trans (h.other i hi h1 h2 h3)
    rcases h.own with e1 | e1
    · exact h3 (e1 ▸ e)
    · have := e1 i e; omega
  · rcases k.own with e2 | e2
    · rcases h.own with e1 | e1
      · exact .inl (e2.trans e1)
      · exact .inr fun j hj => e1 j (e2 ▸ hj)
    · exact .inr fun j hj => Nat.le_trans h.size (e2 j hj)
theorem SlIs.cells {w : World} {g : Nat} {v : Value} {s : SlS} (h : SlIs w g v s) : (w.cell? ⟨g + 1, 0, none⟩ = some (.slice (some ⟨g, 0, none⟩) s.n s.n) ∧ w.cell? ⟨g + 1, 1, none⟩ = some v ∧ w.cell? ⟨g + 1, 2, none⟩ = some (.int .i64 s.st) ∧ w.cell? ⟨g + 1, 3, none⟩ = some (.int .i64 s.fu) ∧ w.cell? ⟨g + 1, 4, none⟩ = some (.bool s.dn)) ∧
    (∀ i, w.frozen? ⟨g + 1, i, none⟩ = false) :=
  ⟨⟨h.b.cell 0, h.b.cell 1, h.b.cell 2, h.b.cell 3, h.b.cell 4⟩, fun i => h.b.frozen i⟩

set_option maxHeartbeats 400000 in
theorem powered_any (g : Nat) (v : Value) (s : SlS) (w : World) (h : SlIs w g v s) :
    Calls Try.prog 44 #[slP g] w fun r w' => r = .returned (.int .i64 (if s.dn then 5 else 0)) ∧ w = w' := by
  obtain ⟨⟨-, -, -, -, c4⟩, -⟩ := h.cells
  clear h
  generalize s.dn = b at c4 ⊢
  cases b
  all_goals
    go_enter Try.func44, Try.ntmps44
    go_wp2_with fail
    go_ret
    exact ⟨rfl, rfl⟩
theorem powered_nil (w : World) : Calls Try.prog 44 #[.pointer none] w fun r w' => r = .returned (.int .i64 2) ∧ w = w' := by
  go_enter Try.func44, Try.ntmps44
  go_wp2_with fail
  go_ret
  exact ⟨rfl, rfl⟩
/-- What has answers. -/
def hasE (s : SlS) (at_ : Int) : Int := if s.dn then 5 else if 0 ≤ at_ ∧ at_ < s.n then 0 else 1
theorem has_nil (a : Int) (w : World) : Calls Try.prog 39 #[.pointer none, .int .i64 a] w fun r w' => r = .returned (.int .i64 2) ∧ w = w' := by
  go_enter Try.func39, Try.ntmps39
  go_wp2_with fail
  refine (powered_nil _).mono ?_
  rintro r w1 ⟨rfl, rfl⟩
  go_wp2_with fail
  go_ret
  exact ⟨rfl, rfl⟩
set_option maxHeartbeats 800000 in
theorem has_any (g : Nat) (v : Value) (s : SlS) (a : Int) (w : World) (h : SlIs w g v s) :
    Calls Try.prog 39 #[slP g, .int .i64 a] w fun r w' => r = .returned (.int .i64 (hasE s a)) ∧ w = w' := by
  have H := Lib.hid h
  have hn := h.k.n1
  obtain ⟨⟨c0, -, -, -, -⟩, -⟩ := h.cells
  clear h
  cases hd : s.dn with
  | true =>
    have HE : Hid (hasE s a = 5) := by unfold Hid hasE; rw [hd]; rfl
    have HD := Lib.hid hd
    clear hd
    go_enter Try.func39, Try.ntmps39
    go_wp2_with fail
    refine (powered_any g v s _ H.out).mono ?_
    rintro r w1 ⟨rfl, rfl⟩
    rw [HD.out]
    go_wp2_with fail
    go_ret
    exact ⟨reti HE.out.symm, rfl⟩
  | false =>
    have HD := Lib.hid hd
    by_cases h0 : 0 ≤ a
    · by_cases h1 : a < s.n
      · have HE : Hid (hasE s a = 0) := by unfold Hid hasE; rw [hd]; simp [h0, h1]
        have h1' : ¬ (s.n : Int) ≤ a := by omega
        clear hd
        go_enter Try.func39, Try.ntmps39
        go_wp2_with fail
        refine (powered_any g v s _ H.out).mono ?_
        rintro r w1 ⟨rfl, rfl⟩
        rw [HD.out]
        go_wp2_with fail
        go_ret
        exact ⟨reti HE.out.symm, rfl⟩
      · have HE : Hid (hasE s a = 1) := by unfold Hid hasE; rw [hd]; simp; omega
        have h1' : (s.n : Int) ≤ a := by omega
        clear hd
        go_enter Try.func39, Try.ntmps39
        go_wp2_with fail
        refine (powered_any g v s _ H.out).mono ?_
        rintro r w1 ⟨rfl, rfl⟩
        rw [HD.out]
        go_wp2_with fail
        go_ret
        exact ⟨reti HE.out.symm, rfl⟩
    · have HE : Hid (hasE s a = 1) := by unfold Hid hasE; rw [hd]; simp; omega
      have h0' : a < 0 := by omega
      clear hd
      go_enter Try.func39, Try.ntmps39
      go_wp2_with fail
      refine (powered_any g v s _ H.out).mono ?_
      rintro r w1 ⟨rfl, rfl⟩
      rw [HD.out]
      go_wp2_with fail
      go_ret
      exact ⟨reti HE.out.symm, rfl⟩
theorem upTo_any (n m : Int) (w : World) : Calls Try.prog 46 #[.int .i64 n, .int .i64 m] w fun r w' => r = .returned (.int .i64 (min (max n 0) m)) ∧ w = w' := by
  go_enter Try.func46, Try.ntmps46
  go_wp2_with fail
  all_goals (go_ret; exact ⟨reti (by first | rfl | omega), rfl⟩)
end Go.Proofs.Ytgikedbnnlckjaa
