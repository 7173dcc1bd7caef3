/-
  SettleSoon: the memory of the walk.
-/
import Derived.Test.YtfnjfoconklhiaaStZB
namespace Go.Proofs.Ytfnjfoconklhiaa
open Go.RowKit Go.Maps

theorem info42s (o : OpV) : (Try.prog.info? 42).map (·.size) = some (ocells o).toArray.size := by kernel_rfl
theorem ocells_one (o : OpV) : ∀ v ∈ ocells o, v.oneCell' = true := by intro v hv; simp [ocells] at hv; rcases hv with h | h | h | h | h | h | h <;> subst h <;> rfl
theorem dueL_len (s : PS) (now : Int) : (s.dueL now).length ≤ 8 := by
  unfold PS.dueL
  split
  · exact those_len _ _ _
  · simp
theorem Blk_turn {w w' : World} {a b : Nat} {cs cs' : Array Value} {t t' : TypeId} {o : Obj} (h : Blk w a (.cells cs t)) (hb : Blk w b (.cells cs' t')) (hT : Turn b o w w') (hne : t ≠ t') : Blk w' a (.cells cs t) :=
  hT.keep h (fun e => by
    subst e
    have hb' := (show w.heap[a]? = _ from h).symm.trans hb
    injection hb' with e
    injection e with _ e
    exact hne e)
abbrev OpV.obj (o : OpV) : Obj := .cells (ocells o).toArray 42
theorem ocells_at {w : World} {O : Nat} {o : OpV} (h : Blk w O o.obj) : w.cell? ⟨O, 0, none⟩ = some (.int .i64 o.kind) ∧ w.cell? ⟨O, 1, none⟩ = some (.int .i64 o.now) ∧ w.cell? ⟨O, 2, none⟩ = some (.int .i64 o.dest) ∧ w.cell? ⟨O, 3, none⟩ = some (.int .u32 o.e) ∧ w.cell? ⟨O, 4, none⟩ = some (.int .u32 o.s) ∧ w.cell? ⟨O, 5, none⟩ = some (.int .i64 o.m) ∧ w.cell? ⟨O, 6, none⟩ = some (.bool o.u) :=
  ⟨h.cell 0, h.cell 1, h.cell 2, h.cell 3, h.cell 4, h.cell 5, h.cell 6⟩
abbrev own2 (w : World) (b n : Nat) (D : DataW Unit) : Prop := w.ownsMap Try.prog 3 (plainElem Try.prog 2) b n D
abbrev ownK (w : World) (b n : Nat) (D : DataW Unit) : Prop := w.ownsMap Try.prog 3 keyElem b n D
theorem map_ne {P : Program} {k : TypeId} {R : Value → Option (DataW Unit × List MemPlace)} {w : World} {b n a : Nat} {D : DataW Unit} {cs : Array Value} {t : TypeId} {f : Nat × Nat} (h : w.ownsMap P k R b n D) (ha : Blk w a (.cells cs t f)) : a ≠ b := by
  intro e
  subst e
  obtain ⟨es, clock, hb, _⟩ := h
  rw [show w.heap[a]? = _ from ha] at hb
  injection hb with e
  cases e
theorem map_keep {P : Program} {k : TypeId} {R : Value → Option (DataW Unit × List MemPlace)} {w w' : World} {b n : Nat} {D : DataW Unit} (h : w.ownsMap P k R b n D) (hb : Below w.heap.size w w') : w'.ownsMap P k R b n D := by
  have hlt := h.lt
  obtain ⟨es, clock, he, r⟩ := h
  exact ⟨es, clock, (hb.block b hlt).trans he, r⟩
theorem Blk.mapped {P : Program} {k : TypeId} {R : Value → Option (DataW Unit × List MemPlace)} {w w' : World} {b n a : Nat} {D : DataW Unit} {cs : Array Value} {t : TypeId} {f : Nat × Nat} (ha : Blk w a (.cells cs t f)) (h : w.ownsMap P k R b n D) (hg : w.grownBy w' (some b)) : Blk w' a (.cells cs t f) :=
  (hg.block a ha.lt (fun e => map_ne h ha (by injection e))).trans ha
theorem row_mapped {P : Program} {k : TypeId} {R : Value → Option (DataW Unit × List MemPlace)} {w w' : World} {b n B m : Nat} {D : DataW Unit} {v : Value} {xs : List Value} (ho : w.ownsRow B 3 1 v m xs) (h : w.ownsMap P k R b n D) (hg : w.grownBy w' (some b)) : w'.ownsRow B 3 1 v m xs := by
  refine ho.kept hg ?_
  cases hv : v.ownBlock with
  | none => exact .inl rfl
  | some k =>
    refine .inr fun e => ?_
    obtain ⟨cur, hc⟩ := ownsRow_type ho hv
    have e' : k = b := by simpa using e
    exact map_ne h (a := k) (cs := cur) hc e'
/-- The plan and the maps in memory. -/
structure SW (w : World) (t b1 b2 b3 n : Nat) (P Q : Int) (p : PS) (D1 D2 D3 : DataW Unit) (w' : World) : Prop where
  own : Own w t p w'
  o1 : own2 w' b1 n D1
  o2 : own2 w' b2 n D2
  o3 : ownK w' b3 n D3
  n12 : b1 ≠ b2
  n13 : b1 ≠ b3
  n23 : b2 ≠ b3
  l1 : w.heap.size ≤ b1
  l2 : w.heap.size ≤ b2
  l3 : w.heap.size ≤ b3
  per : p.period = P
  set : p.settle = Q
section
variable {w w1 w2 : World} {t b1 b2 b3 n : Nat} {P Q : Int} {p : PS} {D1 D2 D3 : DataW Unit}
theorem SW.keep (h : SW w t b1 b2 b3 n P Q p D1 D2 D3 w1) (hb : Below w1.heap.size w1 w2) : SW w t b1 b2 b3 n P Q p D1 D2 D3 w2 :=
  ⟨h.own.more hb, map_keep h.o1 hb, map_keep h.o2 hb, map_keep h.o3 hb, h.n12, h.n13, h.n23, h.l1, h.l2, h.l3, h.per, h.set⟩
theorem SW.drew (h : SW w t b1 b2 b3 n P Q p D1 D2 D3 w1) : SW w t b1 b2 b3 n P Q p D1 D2 D3 w1.drew :=
  ⟨⟨h.own.le, h.own.blk.draw, Below.drew h.own.hb, h.own.ok⟩, h.o1.drew, h.o2.drew, h.o3.drew, h.n12, h.n13, h.n23, h.l1, h.l2, h.l3, h.per, h.set⟩
theorem SW.drewN (h : SW w t b1 b2 b3 n P Q p D1 D2 D3 w1) (k : Nat) : SW w t b1 b2 b3 n P Q p D1 D2 D3 (w1.drewN k) :=
  ⟨⟨h.own.le, h.own.blk, Below.drewNs h.own.hb k, h.own.ok⟩, h.o1, h.o2, h.o3, h.n12, h.n13, h.n23, h.l1, h.l2, h.l3, h.per, h.set⟩
theorem SW.mono {n' : Nat} (h : SW w t b1 b2 b3 n P Q p D1 D2 D3 w1) (hn : n ≤ n') : SW w t b1 b2 b3 n' P Q p D1 D2 D3 w1 :=
  ⟨h.own, h.o1.mono hn, h.o2.mono hn, h.o3.mono hn, h.n12, h.n13, h.n23, h.l1, h.l2, h.l3, h.per, h.set⟩
theorem SW.turn {p' : PS} (h : SW w t b1 b2 b3 n P Q p D1 D2 D3 w1) (k : Turn t p'.obj w1 w2) (ho : p'.Ok) (hp : p'.period = p.period) (hs : p'.settle = p.settle) : SW w t b1 b2 b3 n P Q p' D1 D2 D3 w2 :=
  ⟨h.own.step k ho, h.o1.kept k.grown (fun e => map_ne h.o1 h.own.blk (by injection e with e; exact e.symm)), h.o2.kept k.grown (fun e => map_ne h.o2 h.own.blk (by injection e with e; exact e.symm)), h.o3.kept k.grown (fun e => map_ne h.o3 h.own.blk (by injection e with e; exact e.symm)), h.n12, h.n13, h.n23, h.l1, h.l2, h.l3, hp.trans h.per, hs.trans h.set⟩
theorem Own.mapped {k : TypeId} {R : Value → Option (DataW Unit × List MemPlace)} {b n : Nat} {D : DataW Unit} (h : Own w t p w1) (hm : w1.ownsMap Try.prog k R b n D) (hg : w1.grownBy w2 (some b)) (hl : w.heap.size ≤ b) : Own w t p w2 :=
  ⟨h.le, h.blk.mapped hm hg, h.hb.grown hg h.hb.size (fun k hk => by injection hk with hk; omega), h.ok⟩
theorem SW.map1 {n' : Nat} {D : DataW Unit} (h : SW w t b1 b2 b3 n P Q p D1 D2 D3 w1) (hg : w1.grownBy w2 (some b1)) (hn : n ≤ n') (ho : own2 w2 b1 n' D) : SW w t b1 b2 b3 n' P Q p D D2 D3 w2 :=
  ⟨h.own.mapped h.o1 hg h.l1, ho, (h.o2.kept hg (fun e => h.n12 (by injection e with e; exact e.symm))).mono hn, (h.o3.kept hg (fun e => h.n13 (by injection e with e; exact e.symm))).mono hn, h.n12, h.n13, h.n23, h.l1, h.l2, h.l3, h.per, h.set⟩
theorem SW.map2 {n' : Nat} {D : DataW Unit} (h : SW w t b1 b2 b3 n P Q p D1 D2 D3 w1) (hg : w1.grownBy w2 (some b2)) (hn : n ≤ n') (ho : own2 w2 b2 n' D) : SW w t b1 b2 b3 n' P Q p D1 D D3 w2 :=
  ⟨h.own.mapped h.o2 hg h.l2, (h.o1.kept hg (fun e => h.n12 (by injection e with e))).mono hn, ho, (h.o3.kept hg (fun e => h.n23 (by injection e with e; exact e.symm))).mono hn, h.n12, h.n13, h.n23, h.l1, h.l2, h.l3, h.per, h.set⟩
theorem SW.map3 {n' : Nat} {D : DataW Unit} (h : SW w t b1 b2 b3 n P Q p D1 D2 D3 w1) (hg : w1.grownBy w2 (some b3)) (hn : n ≤ n') (ho : ownK w2 b3 n' D) : SW w t b1 b2 b3 n' P Q p D1 D2 D w2 :=
  ⟨h.own.mapped h.o3 hg h.l3, (h.o1.kept hg (fun e => h.n13 (by injection e with e))).mono hn, (h.o2.kept hg (fun e => h.n23 (by injection e with e))).mono hn, ho, h.n12, h.n13, h.n23, h.l1, h.l2, h.l3, h.per, h.set⟩
/-- A new map for the first one. -/
theorem SW.fresh (h : SW w t b1 b2 b3 n P Q p D1 D2 D3 w1) : SW w t w1.heap.size b2 b3 n P Q p (.map []) D2 D3 (w1.alloc (.map #[] 0)) :=
  have hk := h.keep (w2 := w1.alloc (.map #[] 0)) (more (Below.refl _ _) _)
  ⟨hk.own, (World.ownsMap_made w1 _ _ _).mono (Nat.zero_le _), hk.o2, hk.o3, Ne.symm (Nat.ne_of_lt h.o2.lt), Ne.symm (Nat.ne_of_lt h.o3.lt), h.n23, h.own.hb.size, h.l2, h.l3, h.per, h.set⟩
theorem SW.start (h : Own w t p w1) (hP : p.period = P) (hQ : p.settle = Q) : SW w t w1.heap.size (w1.heap.size + 1) (w1.heap.size + 2) 0 P Q p (.map []) (.map []) (.map []) (((w1.alloc (.map #[] 0)).alloc (.map #[] 0)).alloc (.map #[] 0)) :=
  ⟨h.more (more (more (more (Below.refl _ _) _) _) _), ((World.ownsMap_made w1 _ _ _).alloc _).alloc _, by
    have := (World.ownsMap_made (w1.alloc (.map #[] 0)) Try.prog 3 (plainElem (H := Unit) Try.prog 2)).alloc (.map #[] 0)
    simpa using this, by
    have := World.ownsMap_made ((w1.alloc (.map #[] 0)).alloc (.map #[] 0)) Try.prog 3 keyElem
    simpa using this, by omega, by omega, by omega, h.hb.size, by have := h.hb.size; omega, by have := h.hb.size; omega, hP, hQ⟩
end
theorem rule_in (x y : Int) : ∃ P Q, wrap64 (1 + wrap64 ((IntKind.u64.wrap x).tmod 30)) = P ∧ wrap64 ((IntKind.u64.wrap y).tmod 10) = Q ∧ (1 ≤ P ∧ P ≤ 30) ∧ (0 ≤ Q ∧ Q ≤ 9) := by
  have h : ∀ x, 0 ≤ IntKind.u64.wrap x := fun x => by simp [IntKind.wrap, IntKind.bits, IntKind.signed]; omega
  refine ⟨_, _, rfl, rfl, ?_⟩
  rw [Int.tmod_eq_emod_of_nonneg (h x), Int.tmod_eq_emod_of_nonneg (h y)]
  unfold wrap64
  omega
end Go.Proofs.Ytfnjfoconklhiaa
