/-
  A joiner's memory behind a step.
-/
import Derived.Test.YtioeaknhcfkfcaaPcE
namespace Go.Proofs.Ytioeaknhcfkfcaa
open Go.RowKit

theorem cells_ne {w : World} {a b : Nat} {c1 c2 : Array Value} {t1 t2 : TypeId} {f1 f2 : Nat × Nat} (h1 : w.heap[a]? = some (.cells c1 t1 f1)) (h2 : w.heap[b]? = some (.cells c2 t2 f2)) (h : t1 ≠ t2) : a ≠ b := by
  rintro rfl
  rw [h1] at h2
  injection h2 with e
  injection e with _ e
  exact h e
theorem pcells_cons (x : PtV) (r : List PtV) : pcells (x :: r) = .bool x.there :: x.v :: pcells r := rfl
theorem pcells_set {ps : List PtV} {i : Nat} (hi : i < ps.length) (x : PtV) : ((pcells ps).set (i * 2) (.bool x.there)).set (i * 2 + 1) x.v = pcells (ps.set i x) := by
  induction ps generalizing i with
  | nil => simp at hi
  | cons y r ih =>
    cases i with
    | zero => simp [pcells_cons]
    | succ i =>
      have := ih (i := i) (by simpa using hi)
      rw [pcells_cons, show (i + 1) * 2 = i * 2 + 1 + 1 by omega, List.set_cons_succ, List.set_cons_succ, List.set_cons_succ, List.set_cons_succ, this, List.set_cons_succ, pcells_cons]
/-- No cell of a row of parts is a byte. -/
theorem pcells_no {ps : List PtV} (h : ∀ x ∈ ps, ∃ a n c, x.v = .slice a n c) : ∀ (i : Nat) (z : Int), (pcells ps).toArray[i]? ≠ some (.int .u8 z) := by
  intro i z
  rw [List.getElem?_toArray]
  intro e
  have hm := List.mem_of_getElem? e
  unfold pcells at hm
  obtain ⟨l, hl, hz⟩ := List.mem_flatten.1 hm
  obtain ⟨x, hx, rfl⟩ := List.mem_map.1 hl
  obtain ⟨a, n, c, hv⟩ := h x hx
  unfold ptc at hz
  rw [hv] at hz
  simp at hz
theorem HoldsB.beside {w w' : World} {M b : Nat} {cs : Array Value} {t : TypeId} {fr : Nat × Nat} {v : Value} {l : List Int} (h : HoldsB w M v l) (hb : Blk w b (.cells cs t fr)) (hn : ∀ (i : Nat) (z : Int), cs[i]? ≠ some (.int .u8 z))
    (hs : w.heap.size ≤ w'.heap.size) (ho : ∀ k, k < w.heap.size → k ≠ b → w'.heap[k]? = w.heap[k]?) : HoldsB w' M v l := by
  obtain ⟨a, cap, h1, h2, h3, h4, h5, h6, h7⟩ := h
  refine ⟨a, cap, h1, h2, h3, h4, fun x hx h0 => ⟨(h5 x hx h0).1, (h5 x hx h0).2.1, Nat.lt_of_lt_of_le (h5 x hx h0).2.2 hs⟩, fun x i hx hi => ?_, h7⟩
  have hc := h6 x i hx hi
  have hne : x.block ≠ b := by
    intro e
    rw [e, cell_of_row w b (x.off + i) cs t fr hb] at hc
    exact hn _ _ hc
  exact (World.cell?_of_block (w := w) (a := ⟨x.block, x.off + i, none⟩) (ho _ (h5 x hx (by omega)).2.2 hne)).trans hc
theorem JIs.slices {w : World} {g q : Nat} {J : PjM} (h : JIs w g q J) : ∀ x ∈ J.ps, ∃ a n c, x.v = .slice a n c := fun x hx => by
  obtain ⟨a, n, c, e, _⟩ := (h.t x hx).1.slice
  exact ⟨a, n, c, e⟩
theorem JIs.ne {w : World} {g q : Nat} {J : PjM} (h : JIs w g q J) (h0 : 0 < J.ps.length) : g ≠ q := cells_ne h.b (h.r h0) (by decide)
/-- A part is laid to its place. -/
theorem JIs.putPart {w w' : World} {g q i : Nat} {J : PjM} (h : JIs w g q J) (hi : i < J.ps.length) (x : PtV) (ht : Turn q (.cells (pcells (J.ps.set i x)).toArray 94) w w') (hx : HoldsB w w.heap.size x.v x.l ∧ x.l.length ≤ 4096) :
    JIs w' g q { J with ps := J.ps.set i x } := by
  have hr := h.r (by omega)
  have hno := pcells_no h.slices
  have hone : ∀ y : PtV, HoldsB w w.heap.size y.v y.l → HoldsB w' w'.heap.size y.v y.l := fun y hy => (hy.beside hr hno ht.size fun k hk hne => ht.other k hk hne).mono ht.size
  refine ⟨?_, fun _ => ht.blk, fun y hy => ?_, by simp only [List.length_set]; exact h.n, h.i⟩
  · simp only [List.length_set]
    exact ht.keep h.b (h.ne (by omega))
  · rcases List.mem_or_eq_of_mem_set hy with hy | rfl
    · exact ⟨hone y (h.t y hy).1, (h.t y hy).2⟩
    · exact ⟨hone y hx.1, hx.2⟩
/-- A step of a joiner. -/
structure JStep (g q q' : Nat) (J' : PjM) (w w' : World) : Prop where
  os : w'.os = w.os
  tape : w'.tape = w.tape
  output : w'.output = w.output
  size : w.heap.size ≤ w'.heap.size
  is : JIs w' g q' J'
  other : ∀ k, k < w.heap.size → k ≠ g → k ≠ q → w'.heap[k]? = w.heap[k]?
  at_ : q' = q ∨ w.heap.size ≤ q'
theorem JStep.same {g q : Nat} {J : PjM} {w w' : World} (h : JIs w g q J) (hb : Below w.heap.size w w') : JStep g q q J w w' := ⟨hb.os, hb.tape, hb.output, hb.size, h.keep hb, fun k hk _ _ => hb.block k hk, .inl rfl⟩
theorem JStep.trans {g q q1 q2 : Nat} {J1 J2 : PjM} {w w1 w2 : World} (h : JStep g q q1 J1 w w1) (k : JStep g q1 q2 J2 w1 w2) : JStep g q q2 J2 w w2 := by
  refine ⟨k.os.trans h.os, k.tape.trans h.tape, k.output.trans h.output, Nat.le_trans h.size k.size, k.is, fun i hi h1 h2 => ?_, ?_⟩
  · refine (k.other i (Nat.lt_of_lt_of_le hi h.size) h1 (fun e => ?_)).trans (h.other i hi h1 h2)
    rcases h.at_ with e1 | e1 <;> omega
  · rcases k.at_ with e | e
    · rw [e]; exact h.at_
    · exact .inr (Nat.le_trans h.size e)
theorem JStep.below {g q q' B : Nat} {J' : PjM} {w w' : World} (h : JStep g q q' J' w w') (hg : B ≤ g) (hq : B ≤ q) (hB : B ≤ w.heap.size) : Below B w w' :=
  ⟨h.os, h.tape, h.output, h.size, fun k hk => h.other k (by omega) (by omega) (by omega)⟩
theorem JStep.ended {g q : Nat} {J : PjM} {w w' : World} (h : JIs w g q J) (ht : Turn g (jObj ⟨true, J.id, none, 0, 0⟩) w w') : JStep g q q ⟨true, J.id, []⟩ w w' :=
  ⟨ht.os, ht.tape, ht.output, ht.size, ⟨ht.blk, (fun h0 => absurd h0 (by simp)), (fun x hx => by cases hx), by simp, h.i⟩, fun k hk h1 _ => ht.other k hk h1, .inl rfl⟩
theorem JStep.put {g q i : Nat} {J : PjM} {w w' : World} (h : JIs w g q J) (hi : i < J.ps.length) (x : PtV) (ht : Turn q (.cells (pcells (J.ps.set i x)).toArray 94) w w') (hx : HoldsB w w.heap.size x.v x.l ∧ x.l.length ≤ 4096) : JStep g q q { J with ps := J.ps.set i x } w w' :=
  ⟨ht.os, ht.tape, ht.output, ht.size, h.putPart hi x ht hx, fun k hk _ h2 => ht.other k hk h2, .inl rfl⟩
/-- The two cells of a part are set. -/
theorem turn_part {w : World} {q i : Nat} {ps : List PtV} (hi : i < ps.length) (hb : Blk w q (.cells (pcells ps).toArray 94)) (x : PtV) : Turn q (.cells (pcells (ps.set i x)).toArray 94) w (w.setCells q (i * 2) [.bool x.there, x.v]) := by
  have h := ((Turn.same hb).set (i * 2) (.bool x.there)).set (i * 2 + 1) x.v
  rw [← pcells_set hi]
  have e : (((pcells ps).toArray.setIfInBounds (i * 2) (.bool x.there)).setIfInBounds (i * 2 + 1) x.v) = (((pcells ps).set (i * 2) (.bool x.there)).set (i * 2 + 1) x.v).toArray := by
    rw [List.setIfInBounds_toArray, List.setIfInBounds_toArray]
  rw [e] at h
  exact h
end Go.Proofs.Ytioeaknhcfkfcaa
