/-
  An update on its way from one kind to the other; own rows of entries, as entries that stand in memory.
-/
import Derived.Test.YtgabjmmmiogfjaaDoorFuP
import Derived.Deep.RegionHeld3
import Derived.Deep.AppendLies
namespace Go.Proofs.YtgabjmmmiogfjaaDoor
open Go.RowKit

theorem wp_buildSlice_one {P : Program} {o : Oper} {a : Act} {w : World} {K : Act → World → Prop} {Q : Exit → Act → World → Prop} (t : TypeId) (len : Nat) (x : Operand) (ho : o.op = .buildSlice t len #[(0, x)])
    (u : Value) (hx : a.eval x = u) (v : Value) (w' : World) (hrun : (Instr.buildSlice t len #[(0, u)]).run P w = .ok v w') (h : K (a.put o.dst v) w') : o.wp P a w K Q := by
  subst hx
  unfold Oper.wp execOp
  simp only [ho, Sem.run_bind, List.map_toArray, List.map_cons, List.map_nil, hrun, Result.andThen_ok]
  exact h
theorem ec_range {w : World} {T : Nat} {x : EV} {t : TypeId} (h : Blk w T (.cells (ec x).toArray t)) : w.rangeAt T 0 (ec x) := fun j u hu => by
  rw [Nat.zero_add, h.cell j, List.getElem?_toArray]
  exact hu
theorem HoldsS.upto {w w' : World} {B : Nat} {v : Value} {n : Nat} {l : List Int} (h : HoldsS w v n l) (hd : 0 < n → ∀ b, v.ownBlock = some b → b < B) (hb : Below B w w') : HoldsS w' v n l := by
  obtain ⟨a, cap, h1, h2, h3, h4, h5⟩ := h
  refine ⟨a, cap, h1, h2, h3, h4, fun h0 => ?_⟩
  obtain ⟨b, off, ha, hlt, hc⟩ := h5 h0
  have hB := hd h0 b (by rw [h1, ha]; rfl)
  exact ⟨b, off, ha, Nat.lt_of_lt_of_le hlt hb.size, fun j hj => (World.cell?_of_block (w := w) (a := ⟨b, off + j, none⟩) (hb.block b hB)).trans (hc j hj)⟩
theorem HoldsW.upto {w w' : World} {B M n : Nat} {a : Option Addr} {f : Nat → E3} (h : HoldsW w M a n f) (hb : Below B w w') (hM : M ≤ B) : HoldsW w' M a n f :=
  ⟨fun i hi => ⟨(h.e i hi).l, (h.e i hi).b, (h.e i hi).e, (h.e i hi).s, (h.e i hi).wn, (h.e i hi).pn, (h.e i hi).hw.upto (fun h0 b hq => by have := (h.e i hi).wb h0 b hq; omega) hb, (h.e i hi).hp.upto (fun h0 b hq => by have := (h.e i hi).pb h0 b hq; omega) hb, (h.e i hi).wb, (h.e i hi).pb⟩,
   fun i hi => by
    obtain ⟨b, off, e1, e2, e3, e4⟩ := h.c i hi
    exact ⟨b, off, e1, e2, Nat.lt_of_lt_of_le e3 hb.size, rangeAt_keepU e4 (hb.block _ (by omega))⟩⟩
theorem HoldsS.lenB {w : World} {v : Value} {n : Nat} {l : List Int} (h : HoldsS w v n l) : l.length = n * 16 ∧ Bytes l := by
  obtain ⟨a, cap, h1, h2, h3, h4, h5⟩ := h
  exact ⟨h2, h4⟩
/-- An update on its way from one kind to the other. -/
structure TS (w : World) (A : Nat) (t1 t2 te t : TypeId) (u : Bool) (n : Nat) (a : Option Addr) (c : Nat) (f : Nat → E3) (v : Value) (xs : List E3) (W : World) : Prop where
  b : Blk W A (.cells #[.bool u, .slice a n c] t1)
  r : Blk W (A + 1) (.cells #[.bool false, .slice none 0 0] t2)
  h : Blk W (A + 2) (.cells #[.bool u, v] t2)
  es : EOs W te t (A + 3) v xs
  e : HoldsW W A a n f
  below : Below A w W
theorem TS.more {w W W' : World} {A : Nat} {t1 t2 te t : TypeId} {u : Bool} {n : Nat} {a : Option Addr} {c : Nat} {f : Nat → E3} {v : Value} {xs : List E3} (h : TS w A t1 t2 te t u n a c f v xs W) (hb : Below W.heap.size W W') : TS w A t1 t2 te t u n a c f v xs W' :=
  ⟨h.b.keep hb, h.r.keep hb, h.h.keep hb, h.es.keep hb, h.e.keep hb, h.below.trans (hb.mono (Nat.le_of_lt h.b.lt))⟩
theorem TS.app {w W w3 : World} {A : Nat} {t1 t2 te t : TypeId} {u : Bool} {n : Nat} {a : Option Addr} {c : Nat} {f : Nat → E3} {v v' : Value} {xs : List E3} {z : E3} (h : TS w A t1 t2 te t u n a c f v xs W) (hz : EOw W t (A + 3) z) (ht : t ≠ te)
    (ho : w3.ownsRow (A + 3) te 22 v' (xs.length + 1) (ecs xs ++ ec z.1)) (hg : (W.alloc (.cells (ec z.1).toArray te)).grownBy w3 v.ownBlock) : TS w A t1 t2 te t u n a c f v' (xs ++ [z]) (w3.setCell ⟨A + 2, 1, none⟩ v') := by
  have hl := h.h.lt
  have hm' : Below W.heap.size W (W.alloc (.cells (ec z.1).toArray te)) := Go.Proofs.YtgabjmmmiogfjaaDoor.more (Below.refl _ _) _
  have hes := h.es.keep hm'
  have hb : Below (A + 3) W w3 := below_row_grown (hm'.mono (by omega)) (by simp; omega) hes.v hg
  have hh := h.h.upto hb (by omega)
  have hT : Turn (A + 2) (.cells #[.bool u, v'] t2) w3 (w3.setCell ⟨A + 2, 1, none⟩ v') := ((Turn.same hh).set 1 v').as rfl
  have hr := h.r.upto hb (by omega)
  have h0 := h.b.upto hb (by omega)
  have hbt : Below A w3 (w3.setCell ⟨A + 2, 1, none⟩ v') := hT.below (by omega) (by have := hr.lt; omega)
  exact ⟨hT.keep h0 (by omega), hT.keep hr (by omega), hT.blk, (hes.app (hz.keep hm') ht ho hg).turn hT (by omega), (h.e.upto hb (by omega)).upto hbt (by omega), (h.below.trans (hb.mono (by omega))).trans hbt⟩
/-- What is made out of an update. -/
def TPost (te t : TypeId) (u : Bool) (n : Nat) (f : Nat → E3) (w : World) (r : Ending) (w' : World) : Prop :=
  ∃ a c xs, r = .returned (.agg #[.bool u, .slice a n c]) ∧ EOs w' te t w.heap.size (.slice a n c) xs ∧ xs.length = n ∧ (∀ j z, xs[j]? = some z → SameE (f j) z) ∧ Below w.heap.size w w'
theorem build115q {lf : List Int} (h : lf.length = 16) (d e s m : Int) (a : Option Addr) (n c : Nat) (b : Option Addr) (k l : Nat) (w : World) : (Instr.build 115 #[(0, .int .i64 d), (1, .agg #[.int .u32 e, .int .u32 s, .int .i64 m]), (2, .agg (cc lf a n c b k l).toArray)]).run Tryd.prog w = .ok (.agg (ec ⟨d, e, s, m, lf, a, n, c, b, k, l⟩).toArray) w := by
  obtain ⟨y0, y1, y2, y3, y4, y5, y6, y7, y8, y9, y10, y11, y12, y13, y14, y15, rfl⟩ := list16 h
  exact run_build w 115 _ _ (by kernel_rfl)
theorem build55s {x : EV} (h : x.lf.length = 16) (w : World) : (Instr.buildSlice 55 1 #[(0, ecV x)]).run Tryd.prog w = .ok (.slice (some ⟨w.heap.size, 0, none⟩) 1 1) (w.alloc (.cells (ec x).toArray 115)) := by
  obtain ⟨d, e, s, m, lf, wa, wn, wc, pa, pn, pc⟩ := x
  obtain ⟨y0, y1, y2, y3, y4, y5, y6, y7, y8, y9, y10, y11, y12, y13, y14, y15, rfl⟩ := list16 h
  kernel_rfl
theorem info57t : (Tryd.prog.info? 57).map (·.size) = some 2 := by kernel_rfl
theorem info115z : (Tryd.prog.info? 115).map (fun i => (i.zero, i.size, i.bytes)) = some (some (.agg (ec x0).toArray), 22, 88) := by kernel_rfl
theorem info105w {x : EV} (h : x.lf.length = 16) : (Tryd.prog.info? 105).map (·.size) = some (ec x).toArray.size := by
  rw [List.size_toArray, ec_len h]
  kernel_rfl
theorem build105q {lf : List Int} (h : lf.length = 16) (d e s m : Int) (a : Option Addr) (n c : Nat) (b : Option Addr) (k l : Nat) (w : World) : (Instr.build 105 #[(0, .int .i64 d), (1, .agg #[.int .u32 e, .int .u32 s, .int .i64 m]), (2, .agg (cc lf a n c b k l).toArray)]).run Tryd.prog w = .ok (.agg (ec ⟨d, e, s, m, lf, a, n, c, b, k, l⟩).toArray) w := by
  obtain ⟨y0, y1, y2, y3, y4, y5, y6, y7, y8, y9, y10, y11, y12, y13, y14, y15, rfl⟩ := list16 h
  exact run_build w 105 _ _ (by kernel_rfl)
theorem build50s {x : EV} (h : x.lf.length = 16) (w : World) : (Instr.buildSlice 50 1 #[(0, ecV x)]).run Tryd.prog w = .ok (.slice (some ⟨w.heap.size, 0, none⟩) 1 1) (w.alloc (.cells (ec x).toArray 105)) := by
  obtain ⟨d, e, s, m, lf, wa, wn, wc, pa, pn, pc⟩ := x
  obtain ⟨y0, y1, y2, y3, y4, y5, y6, y7, y8, y9, y10, y11, y12, y13, y14, y15, rfl⟩ := list16 h
  kernel_rfl
theorem info52t : (Tryd.prog.info? 52).map (·.size) = some 2 := by kernel_rfl
theorem info105z : (Tryd.prog.info? 105).map (fun i => (i.zero, i.size, i.bytes)) = some (some (.agg (ec x0).toArray), 22, 88) := by kernel_rfl
theorem info115w {x : EV} (h : x.lf.length = 16) : (Tryd.prog.info? 115).map (·.size) = some (ec x).toArray.size := by
  rw [List.size_toArray, ec_len h]
  kernel_rfl
theorem ecs_at : ∀ (xs : List E3), (∀ z ∈ xs, (ec z.1).length = 22) → ∀ (i : Nat) (z : E3), xs[i]? = some z → ∀ (j : Nat) (v : Value), (ec z.1)[j]? = some v → (ecs xs)[i * 22 + j]? = some v
  | [], _, i, z, hz, _, _, _ => by simp at hz
  | y :: ys, hl, 0, z, hz, j, v, hv => by
    simp at hz
    subst hz
    have hj : j < (ec y.1).length := (List.getElem?_eq_some_iff.1 hv).1
    rw [show ecs (y :: ys) = ec y.1 ++ ecs ys from by simp [ecs], Nat.zero_mul, Nat.zero_add, List.getElem?_append_left hj]
    exact hv
  | y :: ys, hl, i + 1, z, hz, j, v, hv => by
    have h22 := hl y (by simp)
    rw [show ecs (y :: ys) = ec y.1 ++ ecs ys from by simp [ecs], List.getElem?_append_right (by rw [h22]; omega), h22, show (i + 1) * 22 + j - 22 = i * 22 + j by omega]
    exact ecs_at ys (fun z hz => hl z (by simp [hz])) i z (by simpa using hz) j v hv
theorem add_natU (b off n : Nat) : (Addr.add { block := b, off := off, spot := none } n) = ⟨b, off + n, none⟩ := by
  unfold Addr.add
  split
  · rename_i h; subst h; rfl
  · rfl
/-- An own row of sums stands below the heap's end. -/
theorem ownsRow_top {w : World} {base t n size : Nat} {v : Value} {xs : List Value} (h : w.ownsRow base t size v n xs) : ∀ b, v.ownBlock = some b → b < w.heap.size := fun b hb => by
  rcases h.2 with ⟨rfl, _⟩ | ⟨g, cap, cur, rfl, _, hg, _⟩
  · simp [Value.ownBlock] at hb
  · simp [Value.ownBlock] at hb
    subst hb
    exact (Array.getElem?_eq_some_iff.1 hg).1
/-- Own entries, as entries that stand in memory. -/
theorem EOs.holds {W : World} {te t base : Nat} {a : Option Addr} {n c : Nat} {xs : List E3} (h : EOs W te t base (.slice a n c) xs) (f : Nat → E3) (hf : ∀ i z, xs[i]? = some z → f i = z)
    (hr : ∀ z ∈ xs, (0 ≤ z.1.e ∧ z.1.e ≤ 4294967295) ∧ (0 ≤ z.1.s ∧ z.1.s ≤ 4294967295) ∧ z.1.wn ≤ 20 ∧ z.1.pn ≤ 20) (hn : n = xs.length) : HoldsE W W.heap.size a n f := by
  have hz : ∀ i, i < n → ∃ z, xs[i]? = some z ∧ f i = z ∧ z ∈ xs := fun i hi => by
    have hl : i < xs.length := by omega
    exact ⟨xs[i], List.getElem?_eq_getElem hl, hf i _ (List.getElem?_eq_getElem hl), List.getElem_mem hl⟩
  refine ⟨fun i hi => ?_, fun i hi => ?_⟩
  · obtain ⟨z, -, e, hm⟩ := hz i hi
    rw [e]
    have g := h.e z hm
    obtain ⟨r1, r2, r3, r4⟩ := hr z hm
    exact ⟨g.l, g.b, r1, r2, r3, r4, HoldsS.ofRow g.wb (by unfold maxLen; omega) g.wl g.wr, HoldsS.ofRow g.pb (by unfold maxLen; omega) g.pl g.pr, ownsRow_top g.wr, ownsRow_top g.pr⟩
  · obtain ⟨z, hi2, e, hm⟩ := hz i hi
    rw [e]
    have hv := h.v
    rcases hv.2 with ⟨e1, e2⟩ | ⟨g, cap, cur, e1, _, hg, _⟩
    · omega
    · simp only [Value.slice.injEq] at e1
      obtain ⟨rfl, -, -⟩ := e1
      refine ⟨g, 0, rfl, (Array.getElem?_eq_some_iff.1 hg).1, (Array.getElem?_eq_some_iff.1 hg).1, fun j v hj => ?_⟩
      have h9 := ecs_at xs (fun z hz => ec_len (h.e z hz).l) i z hi2 j v hj
      have h8 := hv.cells (g := g) rfl (i * 22 + j) v h9
      rw [add_natU] at h8
      rw [show 0 + i * 22 + j = 0 + (i * 22 + j) by omega]
      exact h8
end Go.Proofs.YtgabjmmmiogfjaaDoor
