/-
  layer 14: the document's device in memory; New, power, Of, Is.
-/
import Derived.Test.YtgikedbnnlckjaaSlR
namespace Go.Proofs.Ytgikedbnnlckjaa
open Go.RowKit

/-- The document's device. -/
structure RlS where
  n : Nat
  sure : List (Nat × List Int)
  q : List (Nat × List Int)
  st : Int
  fu : Int
  dn : Bool
structure RlS.Ok (r : RlS) : Prop where
  n1 : r.n ≤ 4096
  q1 : ∀ x ∈ r.q, x.2.length = 64 ∧ Bytes x.2
  s1 : ∀ x ∈ r.sure, x.2.length = 64 ∧ Bytes x.2
  st : 0 ≤ r.st ∧ r.st ≤ 1000000
  fr : I64 r.fu
  ql : r.q.length ≤ 1000000
  sl : r.sure.length ≤ 1000000
abbrev rObj (v1 v2 : Value) (r : RlS) : Obj := .cells #[.int .i64 r.n, v1, v2, .int .i64 r.fu, .bool r.dn, .int .i64 r.st] 75
abbrev rP (M : Nat) : Value := .pointer (some ⟨M, 0, none⟩)
structure RlIs (w : World) (M : Nat) (v1 v2 : Value) (r : RlS) : Prop where
  b : Blk w M (rObj v1 v2 r)
  o1 : w.ownsRow (M + 1) 98 65 v1 r.sure.length (qcells r.sure)
  o2 : w.ownsRow (M + 1) 98 65 v2 r.q.length (qcells r.q)
  ne : ∀ k, v1.ownBlock = some k → v2.ownBlock ≠ some k
  k : r.Ok
theorem RlIs.keep {w w' : World} {M : Nat} {v1 v2 : Value} {r : RlS} (h : RlIs w M v1 v2 r) (hb : Below w.heap.size w w') : RlIs w' M v1 v2 r := ⟨h.b.keep hb, ownsRow_below h.o1 hb, ownsRow_below h.o2 hb, h.ne, h.k⟩
theorem RlIs.lt {w : World} {M : Nat} {v1 v2 : Value} {r : RlS} (h : RlIs w M v1 v2 r) : M < w.heap.size := h.b.lt
structure RStep (M : Nat) (v1 v2 v1' v2' : Value) (r' : RlS) (w w' : World) : Prop where
  os : w'.os = w.os
  tape : w'.tape = w.tape
  output : w'.output = w.output
  size : w.heap.size ≤ w'.heap.size
  is : RlIs w' M v1' v2' r'
  other : ∀ k, k < w.heap.size → k ≠ M → v1.ownBlock ≠ some k → v2.ownBlock ≠ some k → w'.heap[k]? = w.heap[k]?
  own : ∀ k, (v1'.ownBlock = some k ∨ v2'.ownBlock = some k) → (v1.ownBlock = some k ∨ v2.ownBlock = some k) ∨ w.heap.size ≤ k
theorem RStep.same {M : Nat} {v1 v2 : Value} {r : RlS} {w w' : World} (h : RlIs w M v1 v2 r) (hb : Below w.heap.size w w') : RStep M v1 v2 v1 v2 r w w' :=
  ⟨hb.os, hb.tape, hb.output, hb.size, h.keep hb, fun k hk _ _ _ => hb.block k hk, fun k hk => .inl hk⟩
theorem RStep.trans {M : Nat} {a1 a2 b1 b2 c1 c2 : Value} {r1 r2 : RlS} {w w1 w2 : World} (h : RStep M a1 a2 b1 b2 r1 w w1) (k : RStep M b1 b2 c1 c2 r2 w1 w2) : RStep M a1 a2 c1 c2 r2 w w2 := by
  refine ⟨k.os.trans h.os, k.tape.trans h.tape, k.output.trans h.output, Nat.le_trans h.size k.size, k.is, fun i hi n1 n2 n3 => ?_, fun i hi => ?_⟩
  · refine (k.other i (Nat.lt_of_lt_of_le hi h.size) n1 (fun e => ?_) (fun e => ?_)).trans (h.other i hi n1 n2 n3)
    · rcases h.own i (.inl e) with (e1 | e1) | e1
      · exact n2 e1
      · exact n3 e1
      · omega
    · rcases h.own i (.inr e) with (e1 | e1) | e1
      · exact n2 e1
      · exact n3 e1
      · omega
  · rcases k.own i hi with e | e
    · exact h.own i e
    · exact .inr (Nat.le_trans h.size e)
theorem RStep.below {M B : Nat} {v1 v2 v1' v2' : Value} {r r' : RlS} {w w' : World} (h : RStep M v1 v2 v1' v2' r' w w') (hi : RlIs w M v1 v2 r) (hB : B ≤ M) : Below B w w' :=
  ⟨h.os, h.tape, h.output, h.size, fun k hk => h.other k (by have := hi.lt; omega) (by omega) (fun e => by have := (hi.o1.lt k e).1; omega) (fun e => by have := (hi.o2.lt k e).1; omega)⟩
/-- What isn't its own stays. -/
theorem RStep.obj {M : Nat} {v1 v2 v1' v2' : Value} {r r' : RlS} {w w' : World} (h : RStep M v1 v2 v1' v2' r' w w') (hi : RlIs w M v1 v2 r) {k : Nat} {cs : Array Value} {t : TypeId} {fr : Nat × Nat} (hk : w.heap[k]? = some (.cells cs t fr)) (n1 : t ≠ 75) (n2 : t ≠ 98) : w'.heap[k]? = w.heap[k]? :=
  h.other k (Array.getElem?_eq_some_iff.1 hk).1 (cells_ne hk (show w.heap[M]? = _ from hi.b) n1) (fun e => own_ne hk hi.o1 n2 e.symm) (fun e => own_ne hk hi.o2 n2 e.symm)
/-- A step on the one device leaves the other. -/
theorem RlIs.dev {M g : Nat} {v1 v2 v v' : Value} {r : RlS} {s s' : SlS} {w w' : World} (h : RlIs w M v1 v2 r) (hs : SlStep g v v' s' w w') (hd : SlIs w g v s) : RlIs w' M v1 v2 r :=
  ⟨(hs.obj hd h.b (by decide) (by decide) (by decide)).trans h.b, ownsRow_same h.o1 (fun k hk => by
    obtain ⟨cur, e⟩ := ownsRow_type h.o1 hk
    exact hs.obj hd e (by decide) (by decide) (by decide)), ownsRow_same h.o2 (fun k hk => by
    obtain ⟨cur, e⟩ := ownsRow_type h.o2 hk
    exact hs.obj hd e (by decide) (by decide) (by decide)), h.ne, h.k⟩
theorem SlIs.doc {M g : Nat} {v1 v2 v1' v2' v : Value} {r r' : RlS} {s : SlS} {w w' : World} (h : SlIs w g v s) (hs : RStep M v1 v2 v1' v2' r' w w') (hd : RlIs w M v1 v2 r) : SlIs w' g v s :=
  ⟨(hs.obj hd h.b (by decide) (by decide)).trans h.b, (hs.obj hd h.r (by decide) (by decide)).trans h.r, ownsRow_same h.o (fun k hk => by
    obtain ⟨cur, e⟩ := ownsRow_type h.o hk
    exact hs.obj hd e (by decide) (by decide)), h.k⟩
/-- A turn of the object alone. -/
theorem RStep.turn {w w' : World} {M : Nat} {v1 v2 : Value} {r r' : RlS} (h : RlIs w M v1 v2 r) (hT : Turn M (rObj v1 v2 r') w w') (e1 : r'.sure = r.sure) (e2 : r'.q = r.q) (hk : r'.Ok) : RStep M v1 v2 v1 v2 r' w w' :=
  ⟨hT.os, hT.tape, hT.output, hT.size, ⟨hT.blk, by rw [e1]; exact ownsRow_turn h.o1 hT (by omega), by rw [e2]; exact ownsRow_turn h.o2 hT (by omega), h.ne, hk⟩, fun k hk2 n1 _ _ => hT.other k hk2 n1, fun k hk2 => .inl hk2⟩
def rNew (n : Nat) : RlS := { n := n, sure := [], q := [], st := 0, fu := -1, dn := false }
theorem rNew_ok {n : Nat} (h : n ≤ 4096) : (rNew n).Ok := ⟨h, (fun x hx => by cases hx), (fun x hx => by cases hx), by simp [rNew], by simp [rNew, I64], by simp [rNew], by simp [rNew]⟩
theorem rnew_any (n : Nat) (w : World) (h : n ≤ 4096) : Calls Try.prog 11 #[.int .i64 n] w fun r w' => r = .returned (rP w.heap.size) ∧ RlIs w' w.heap.size (.slice none 0 0) (.slice none 0 0) (rNew n) ∧ Below w.heap.size w w' := by
  have HF : Kp (∀ W : World, W = w.alloc (rObj (.slice none 0 0) (.slice none 0 0) (rNew n)) → RlIs W w.heap.size (.slice none 0 0) (.slice none 0 0) (rNew n) ∧ Below w.heap.size w W) := ⟨by
    rintro W rfl
    exact ⟨⟨Blk.new _ _, World.ownsRow_nil _ _ _ _, World.ownsRow_nil _ _ _ _, (fun k e => by cases e), rNew_ok h⟩, more (Below.refl _ _) _⟩⟩
  clear h
  go_enter Try.func11, Try.ntmps11
  go_wp2_with fail
  go_ret
  exact ⟨rfl, HF.out _ rfl⟩
def rStep (r : RlS) : RlS := if r.fu = 0 then { r with dn := true } else { r with fu := if 0 < r.fu then r.fu - 1 else r.fu, st := r.st + 1 }
theorem RlIs.cells {w : World} {M : Nat} {v1 v2 : Value} {r : RlS} (h : RlIs w M v1 v2 r) : (w.cell? ⟨M, 0, none⟩ = some (.int .i64 r.n) ∧ w.cell? ⟨M, 1, none⟩ = some v1 ∧ w.cell? ⟨M, 2, none⟩ = some v2 ∧ w.cell? ⟨M, 3, none⟩ = some (.int .i64 r.fu) ∧ w.cell? ⟨M, 4, none⟩ = some (.bool r.dn) ∧ w.cell? ⟨M, 5, none⟩ = some (.int .i64 r.st)) ∧ (∀ i, w.frozen? ⟨M, i, none⟩ = false) :=
  ⟨⟨h.b.cell 0, h.b.cell 1, h.b.cell 2, h.b.cell 3, h.b.cell 4, h.b.cell 5⟩, fun i => h.b.frozen i⟩
set_option maxHeartbeats 800000 in
theorem power_any (M : Nat) (v1 v2 : Value) (r : RlS) (w : World) (h : RlIs w M v1 v2 r) (hst : r.st + 1 ≤ 1000000) :
    Calls Try.prog 52 #[rP M] w fun e w' => e = .returned (.bool (r.fu != 0)) ∧ RStep M v1 v2 v1 v2 (rStep r) w w' := by
  have H := Kp.mk h
  have hsr := h.k.st
  have hfr := h.k.fr
  unfold I64 at hfr
  obtain ⟨⟨c0, c1, c2, c3, c4, c5⟩, hf⟩ := h.cells
  have hf3 := hf 3
  have hf4 := hf 4
  have hf5 := hf 5
  have hlt := h.lt
  clear hf h
  by_cases h0 : r.fu = 0
  · have hS : rStep r = { r with dn := true } := by unfold rStep; rw [if_pos h0]
    have HT : Kp (RStep M v1 v2 v1 v2 (rStep r) w (w.setCell ⟨M, 4, none⟩ (.bool true))) := ⟨by
      rw [hS]
      exact RStep.turn H.out (((Turn.same H.out.b).set 4 (.bool true)).as rfl) rfl rfl ⟨H.out.k.n1, H.out.k.q1, H.out.k.s1, H.out.k.st, H.out.k.fr, H.out.k.ql, H.out.k.sl⟩⟩
    have HE : Kp ((r.fu != 0) = false) := ⟨by simp [h0]⟩
    clear hS
    rw [h0] at c3
    clear h0
    go_enter Try.func52, Try.ntmps52
    go_wp2_with fail
    go_ret
    exact ⟨by have h9 : r.fu = 0 := (by have := HE.out; simpa using this); simp [h9], HT.out⟩
  · have h0' : (r.fu == 0) = false := by simp [h0]
    have HE : Kp (r.fu ≠ 0) := ⟨h0⟩
    by_cases h1 : 0 < r.fu
    · have hS : rStep r = { r with fu := r.fu - 1, st := r.st + 1 } := by unfold rStep; rw [if_neg h0, if_pos h1]
      have HT : Kp (RStep M v1 v2 v1 v2 (rStep r) w ((w.setCell ⟨M, 3, none⟩ (.int .i64 (r.fu - 1))).setCell ⟨M, 5, none⟩ (.int .i64 (r.st + 1)))) := ⟨by
        rw [hS]
        exact RStep.turn H.out ((((Turn.same H.out.b).set 3 (.int .i64 (r.fu - 1))).set 5 (.int .i64 (r.st + 1))).as rfl) rfl rfl ⟨H.out.k.n1, H.out.k.q1, H.out.k.s1, (show 0 ≤ r.st + 1 ∧ r.st + 1 ≤ 1000000 by omega), (show I64 (r.fu - 1) by unfold I64; omega), H.out.k.ql, H.out.k.sl⟩⟩
      clear hS h0
      go_enter Try.func52, Try.ntmps52
      go_wp2_with fail
      go_ret
      exact ⟨by have h9 := HE.out; simp [h9], HT.out⟩
    · have hS : rStep r = { r with st := r.st + 1 } := by unfold rStep; rw [if_neg h0, if_neg h1]
      have HT : Kp (RStep M v1 v2 v1 v2 (rStep r) w (w.setCell ⟨M, 5, none⟩ (.int .i64 (r.st + 1)))) := ⟨by
        rw [hS]
        exact RStep.turn H.out (((Turn.same H.out.b).set 5 (.int .i64 (r.st + 1))).as rfl) rfl rfl ⟨H.out.k.n1, H.out.k.q1, H.out.k.s1, (show 0 ≤ r.st + 1 ∧ r.st + 1 ≤ 1000000 by omega), H.out.k.fr, H.out.k.ql, H.out.k.sl⟩⟩
      clear hS h0
      go_enter Try.func52, Try.ntmps52
      go_wp2_with fail
      go_ret
      exact ⟨by have h9 := HE.out; simp [h9], HT.out⟩
end Go.Proofs.Ytgikedbnnlckjaa
