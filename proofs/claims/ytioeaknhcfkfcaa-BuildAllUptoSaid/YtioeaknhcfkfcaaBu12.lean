/-
  An update on its way from one kind to the other; own rows of entries, as entries that stand in memory.
  The law's ToUpdate.
  The law's FromUpdate.
  An update that came in.
  What was laid of an update is what is taken.
  An update that was laid is what is taken.
  What was taken of an update stands in memory as one.
  The law FrameUpdates: what is said of updates that are the same.
-/
import Derived.Test.YtioeaknhcfkfcaaBu11
import Derived.Deep.RegionHeld3
import Derived.Deep.AppendLies
import Derived.OpenShut
import Derived.ProofKit
import Derived.Deep.Slices
import Derived.Deep.Fields
import Derived.Deep.Strs
import Derived.Lib.SmallJoins
namespace Go.Proofs.Ytioeaknhcfkfcaa
open Go.RowKit

theorem ec_range {w : World} {T : Nat} {x : EV} {t : TypeId} (h : Blk w T (.cells (ec x).toArray t)) : w.rangeAt T 0 (ec x) := fun j u hu => by
  rw [Nat.zero_add, h.cell j, List.getElem?_toArray]
  exact hu
theorem HoldsS.upto {w w' : World} {B : Nat} {v : Value} {n : Nat} {l : List Int} (h : HoldsS w v n l) (hd : 0 < n → ∀ b, v.ownBlock = some b → b < B) (hb : Below B w w') : HoldsS w' v n l := by
  obtain ⟨a, cap, h1, h2, h3, h4, h5⟩ := h
  refine ⟨a, cap, h1, h2, h3, h4, fun h0 => ?_⟩
  obtain ⟨b, off, ha, hlt, hc⟩ := h5 h0
  have hB := hd h0 b (by rw [h1, ha]; rfl)
  exact ⟨b, off, ha, Nat.lt_of_lt_of_le hlt hb.size, fun j hj => (World.cell?_of_block (w := w) (a := ⟨b, off + j, none⟩) (hb.block b hB)).trans (hc j hj)⟩
theorem HoldsW.upto {w w' : World} {B M n : Nat} {a : Option Addr} {f : Nat → E3} (h : HoldsW w M a n f) (hb : Below B w w') (hM : M ≤ B) : HoldsW w' M a n f :=
  ⟨fun i hi => ⟨(h.e i hi).l, (h.e i hi).b, (h.e i hi).e, (h.e i hi).s, (h.e i hi).wn, (h.e i hi).pn, (h.e i hi).hw.upto (fun h0 b hq => by have := (h.e i hi).wb h0 b hq; omega) hb, (h.e i hi).hp.upto (fun h0 b hq => by have := (h.e i hi).pb h0 b hq; omega) hb, (h.e i hi).wb, (h.e i hi).pb⟩,
   fun i hi => by
    obtain ⟨b, off, e1, e2, e3, e4⟩ := h.c i hi
    exact ⟨b, off, e1, e2, Nat.lt_of_lt_of_le e3 hb.size, rangeAt_keepU e4 (hb.block _ (by omega))⟩⟩
theorem HoldsS.lenB {w : World} {v : Value} {n : Nat} {l : List Int} (h : HoldsS w v n l) : l.length = n * 16 ∧ Bytes l := by
  obtain ⟨a, cap, h1, h2, h3, h4, h5⟩ := h
  exact ⟨h2, h4⟩
/-- An update on its way from one kind to the other. -/
structure TS (w : World) (A : Nat) (t1 t2 te t : TypeId) (u : Bool) (n : Nat) (a : Option Addr) (c : Nat) (f : Nat → E3) (v : Value) (xs : List E3) (W : World) : Prop where
  b : Blk W A (.cells #[.bool u, .slice a n c] t1)
  r : Blk W (A + 1) (.cells #[.bool false, .slice none 0 0] t2)
  h : Blk W (A + 2) (.cells #[.bool u, v] t2)
  es : EOs W te t (A + 3) v xs
  e : HoldsW W A a n f
  below : Below A w W
theorem TS.more {w W W' : World} {A : Nat} {t1 t2 te t : TypeId} {u : Bool} {n : Nat} {a : Option Addr} {c : Nat} {f : Nat → E3} {v : Value} {xs : List E3} (h : TS w A t1 t2 te t u n a c f v xs W) (hb : Below W.heap.size W W') : TS w A t1 t2 te t u n a c f v xs W' :=
  ⟨h.b.keep hb, h.r.keep hb, h.h.keep hb, h.es.keep hb, h.e.keep hb, h.below.trans (hb.mono (Nat.le_of_lt h.b.lt))⟩
theorem TS.app {w W w3 : World} {A : Nat} {t1 t2 te t : TypeId} {u : Bool} {n : Nat} {a : Option Addr} {c : Nat} {f : Nat → E3} {v v' : Value} {xs : List E3} {z : E3} (h : TS w A t1 t2 te t u n a c f v xs W) (hz : EOw W t (A + 3) z) (ht : t ≠ te)
    (ho : w3.ownsRow (A + 3) te 22 v' (xs.length + 1) (ecs xs ++ ec z.1)) (hg : (W.alloc (.cells (ec z.1).toArray te)).grownBy w3 v.ownBlock) : TS w A t1 t2 te t u n a c f v' (xs ++ [z]) (w3.setCell ⟨A + 2, 1, none⟩ v') := by
  have hl := h.h.lt
  have hm' : Below W.heap.size W (W.alloc (.cells (ec z.1).toArray te)) := Go.Proofs.Ytioeaknhcfkfcaa.more (Below.refl _ _) _
  have hes := h.es.keep hm'
  have hb : Below (A + 3) W w3 := below_row_grown (hm'.mono (by omega)) (by simp; omega) hes.v hg
  have hh := h.h.upto hb (by omega)
  have hT : Turn (A + 2) (.cells #[.bool u, v'] t2) w3 (w3.setCell ⟨A + 2, 1, none⟩ v') := ((Turn.same hh).set 1 v').as rfl
  have hr := h.r.upto hb (by omega)
  have h0 := h.b.upto hb (by omega)
  have hbt : Below A w3 (w3.setCell ⟨A + 2, 1, none⟩ v') := hT.below (by omega) (by have := hr.lt; omega)
  exact ⟨hT.keep h0 (by omega), hT.keep hr (by omega), hT.blk, (hes.app (hz.keep hm') ht ho hg).turn hT (by omega), (h.e.upto hb (by omega)).upto hbt (by omega), (h.below.trans (hb.mono (by omega))).trans hbt⟩
/-- What is made out of an update. -/
def TPost (te t : TypeId) (u : Bool) (n : Nat) (f : Nat → E3) (w : World) (r : Ending) (w' : World) : Prop :=
  ∃ a c xs, r = .returned (.agg #[.bool u, .slice a n c]) ∧ EOs w' te t w.heap.size (.slice a n c) xs ∧ xs.length = n ∧ (∀ j z, xs[j]? = some z → SameE (f j) z) ∧ Below w.heap.size w w'
theorem build115q {lf : List Int} (h : lf.length = 16) (d e s m : Int) (a : Option Addr) (n c : Nat) (b : Option Addr) (k l : Nat) (w : World) : (Instr.build 76 #[(0, .int .i64 d), (1, .agg #[.int .u32 e, .int .u32 s, .int .i64 m]), (2, .agg (cc lf a n c b k l).toArray)]).run Try.prog w = .ok (.agg (ec ⟨d, e, s, m, lf, a, n, c, b, k, l⟩).toArray) w := by
  obtain ⟨y0, y1, y2, y3, y4, y5, y6, y7, y8, y9, y10, y11, y12, y13, y14, y15, rfl⟩ := list16 h
  exact run_build w 76 _ _ (by kernel_rfl)
theorem build55s {x : EV} (h : x.lf.length = 16) (w : World) : (Instr.buildSlice 36 1 #[(0, ecV x)]).run Try.prog w = .ok (.slice (some ⟨w.heap.size, 0, none⟩) 1 1) (w.alloc (.cells (ec x).toArray 76)) := by
  obtain ⟨d, e, s, m, lf, wa, wn, wc, pa, pn, pc⟩ := x
  obtain ⟨y0, y1, y2, y3, y4, y5, y6, y7, y8, y9, y10, y11, y12, y13, y14, y15, rfl⟩ := list16 h
  kernel_rfl
theorem info57t : (Try.prog.info? 45).map (·.size) = some 2 := by kernel_rfl
theorem info115z : (Try.prog.info? 76).map (fun i => (i.zero, i.size, i.bytes)) = some (some (.agg (ec x0).toArray), 22, 88) := by kernel_rfl
theorem info105w {x : EV} (h : x.lf.length = 16) : (Try.prog.info? 32).map (·.size) = some (ec x).toArray.size := by
  rw [List.size_toArray, ec_len h]
  kernel_rfl
theorem build105q {lf : List Int} (h : lf.length = 16) (d e s m : Int) (a : Option Addr) (n c : Nat) (b : Option Addr) (k l : Nat) (w : World) : (Instr.build 32 #[(0, .int .i64 d), (1, .agg #[.int .u32 e, .int .u32 s, .int .i64 m]), (2, .agg (cc lf a n c b k l).toArray)]).run Try.prog w = .ok (.agg (ec ⟨d, e, s, m, lf, a, n, c, b, k, l⟩).toArray) w := by
  obtain ⟨y0, y1, y2, y3, y4, y5, y6, y7, y8, y9, y10, y11, y12, y13, y14, y15, rfl⟩ := list16 h
  exact run_build w 32 _ _ (by kernel_rfl)
theorem build50s {x : EV} (h : x.lf.length = 16) (w : World) : (Instr.buildSlice 22 1 #[(0, ecV x)]).run Try.prog w = .ok (.slice (some ⟨w.heap.size, 0, none⟩) 1 1) (w.alloc (.cells (ec x).toArray 32)) := by
  obtain ⟨d, e, s, m, lf, wa, wn, wc, pa, pn, pc⟩ := x
  obtain ⟨y0, y1, y2, y3, y4, y5, y6, y7, y8, y9, y10, y11, y12, y13, y14, y15, rfl⟩ := list16 h
  kernel_rfl
theorem info52t : (Try.prog.info? 49).map (·.size) = some 2 := by kernel_rfl
theorem info105z : (Try.prog.info? 32).map (fun i => (i.zero, i.size, i.bytes)) = some (some (.agg (ec x0).toArray), 22, 88) := by kernel_rfl
theorem info115w {x : EV} (h : x.lf.length = 16) : (Try.prog.info? 76).map (·.size) = some (ec x).toArray.size := by
  rw [List.size_toArray, ec_len h]
  kernel_rfl
theorem ecs_at : ∀ (xs : List E3), (∀ z ∈ xs, (ec z.1).length = 22) → ∀ (i : Nat) (z : E3), xs[i]? = some z → ∀ (j : Nat) (v : Value), (ec z.1)[j]? = some v → (ecs xs)[i * 22 + j]? = some v
  | [], _, i, z, hz, _, _, _ => by simp at hz
  | y :: ys, hl, 0, z, hz, j, v, hv => by
    simp at hz
    subst hz
    have hj : j < (ec y.1).length := (List.getElem?_eq_some_iff.1 hv).1
    rw [show ecs (y :: ys) = ec y.1 ++ ecs ys from by simp [ecs], Nat.zero_mul, Nat.zero_add, List.getElem?_append_left hj]
    exact hv
  | y :: ys, hl, i + 1, z, hz, j, v, hv => by
    have h22 := hl y (by simp)
    rw [show ecs (y :: ys) = ec y.1 ++ ecs ys from by simp [ecs], List.getElem?_append_right (by rw [h22]; omega), h22, show (i + 1) * 22 + j - 22 = i * 22 + j by omega]
    exact ecs_at ys (fun z hz => hl z (by simp [hz])) i z (by simpa using hz) j v hv
theorem add_natU (b off n : Nat) : (Addr.add { block := b, off := off, spot := none } n) = ⟨b, off + n, none⟩ := by
  unfold Addr.add
  split
  · rename_i h; subst h; rfl
  · rfl
/-- An own row of sums stands below the heap's end. -/
theorem ownsRow_top {w : World} {base t n size : Nat} {v : Value} {xs : List Value} (h : w.ownsRow base t size v n xs) : ∀ b, v.ownBlock = some b → b < w.heap.size := fun b hb => by
  rcases h.2 with ⟨rfl, _⟩ | ⟨g, cap, cur, rfl, _, hg, _⟩
  · simp [Value.ownBlock] at hb
  · simp [Value.ownBlock] at hb
    subst hb
    exact (Array.getElem?_eq_some_iff.1 hg).1
/-- Own entries, as entries that stand in memory. -/
theorem EOs.holds {W : World} {te t base : Nat} {a : Option Addr} {n c : Nat} {xs : List E3} (h : EOs W te t base (.slice a n c) xs) (f : Nat → E3) (hf : ∀ i z, xs[i]? = some z → f i = z)
    (hr : ∀ z ∈ xs, (0 ≤ z.1.e ∧ z.1.e ≤ 4294967295) ∧ (0 ≤ z.1.s ∧ z.1.s ≤ 4294967295) ∧ z.1.wn ≤ 65535 ∧ z.1.pn ≤ 65535) (hn : n = xs.length) : HoldsE W W.heap.size a n f := by
  have hz : ∀ i, i < n → ∃ z, xs[i]? = some z ∧ f i = z ∧ z ∈ xs := fun i hi => by
    have hl : i < xs.length := by omega
    exact ⟨xs[i], List.getElem?_eq_getElem hl, hf i _ (List.getElem?_eq_getElem hl), List.getElem_mem hl⟩
  refine ⟨fun i hi => ?_, fun i hi => ?_⟩
  · obtain ⟨z, -, e, hm⟩ := hz i hi
    rw [e]
    have g := h.e z hm
    obtain ⟨r1, r2, r3, r4⟩ := hr z hm
    exact ⟨g.l, g.b, r1, r2, r3, r4, HoldsS.ofRow g.wb (by unfold maxLen; omega) g.wl g.wr, HoldsS.ofRow g.pb (by unfold maxLen; omega) g.pl g.pr, ownsRow_top g.wr, ownsRow_top g.pr⟩
  · obtain ⟨z, hi2, e, hm⟩ := hz i hi
    rw [e]
    have hv := h.v
    rcases hv.2 with ⟨e1, e2⟩ | ⟨g, cap, cur, e1, _, hg, _⟩
    · omega
    · simp only [Value.slice.injEq] at e1
      obtain ⟨rfl, -, -⟩ := e1
      refine ⟨g, 0, rfl, (Array.getElem?_eq_some_iff.1 hg).1, (Array.getElem?_eq_some_iff.1 hg).1, fun j v hj => ?_⟩
      have h9 := ecs_at xs (fun z hz => ec_len (h.e z hz).l) i z hi2 j v hj
      have h8 := hv.cells (g := g) rfl (i * 22 + j) v h9
      rw [add_natU] at h8
      rw [show 0 + i * 22 + j = 0 + (i * 22 + j) by omega]
      exact h8
end Go.Proofs.Ytioeaknhcfkfcaa

namespace Go.Proofs.Ytioeaknhcfkfcaa
open Go.RowKit

theorem ownsRow_len {w : World} {base t n size : Nat} {a : Option Addr} {m c : Nat} {xs : List Value} (h : w.ownsRow base t size (.slice a m c) n xs) : m = n := by
  rcases h.2 with ⟨e, h0⟩ | ⟨g, cap, cur, e, _⟩ <;> (simp only [Value.slice.injEq] at e; omega)
/-- The first entries, made anew. -/
def SameRow (f : Nat → E3) (i : Nat) (xs : List E3) : Prop := xs.length = i ∧ ∀ j z, xs[j]? = some z → SameE (f j) z
theorem SameRow.app {f : Nat → E3} {i : Nat} {xs : List E3} {z : E3} (h : SameRow f i xs) (hz : SameE (f i) z) : SameRow f (i + 1) (xs ++ [z]) := by
  refine ⟨by rw [List.length_append, h.1]; rfl, fun j y hy => ?_⟩
  by_cases hj : j < xs.length
  · rw [List.getElem?_append_left hj] at hy
    exact h.2 j y hy
  · rw [List.getElem?_append_right (by omega)] at hy
    have hj0 : j - xs.length = 0 := by
      have := (List.getElem?_eq_some_iff.1 hy).1
      simp at this
      omega
    rw [hj0] at hy
    simp at hy
    subst hy
    rw [show j = i by have := h.1; omega]
    exact hz
end Go.Proofs.Ytioeaknhcfkfcaa

namespace Go.Proofs.Ytioeaknhcfkfcaa
open Go.RowKit

end Go.Proofs.Ytioeaknhcfkfcaa

namespace Go.Proofs.Ytioeaknhcfkfcaa
open Go.ChangeShapes Go.WideShapes Go.ChangeAt Go.RowKit Go.Deep Go.Joins

theorem add_off (b off n : Nat) : (Addr.add { block := b, off := off, spot := none } n) = ⟨b, off + n, none⟩ := by
  unfold Addr.add
  split
  · rename_i h; subst h; rfl
  · rfl
theorem c40u : Try.prog.cellsOf 27 = 16 := by kernel_rfl
theorem c5u : Try.prog.cellsOf 5 = 1 := by kernel_rfl
section
variable {H : Type} {enc : TypeId × Value → H} {W : World}
theorem sum_of {n : Nat} {cs : List Value} {x : DataW H × List MemPlace} (h : DataW.trod enc Try.prog W 0 (fun _ => true) true n 27 cs = some x) : ∃ p, cs = bv p ∧ p.length = 16 ∧ Bytes p := by
  obtain ⟨ys, k, _, _, hl, hy, hg⟩ := DataW.trod_array Try.underlying27 h
  rw [c40u] at hl
  rw [c5u] at hg
  have each : ∀ j, j < 16 → ∃ z : Int, cs[j]? = some (.int .u8 z) ∧ 0 ≤ z ∧ z ≤ 255 := fun j hj => by
    have h1 := hg j (by omega)
    rw [List.getElem?_eq_getElem (show j < ys.length by omega), Nat.mul_one] at h1
    obtain ⟨z, e0, _, wz⟩ := DataW.trod_int Try.underlying5 h1
    have h2 : IntKind.u8.min = 0 := rfl
    have h3 : IntKind.u8.max = 255 := rfl
    simp [Lit.wf, h2, h3] at wz
    refine ⟨z, ?_, wz⟩
    have h4 : ((cs.drop j).take 1)[0]? = some (.int .u8 z) := by rw [e0]; rfl
    rw [List.getElem?_take, if_pos (by omega), List.getElem?_drop] at h4
    simpa using h4
  obtain ⟨f, hf⟩ : ∃ f : Nat → Int, ∀ j, j < 16 → cs[j]? = some (.int .u8 (f j)) ∧ 0 ≤ f j ∧ f j ≤ 255 := by
    refine ⟨fun j => if h : j < 16 then Classical.choose (each j h) else 0, fun j hj => ?_⟩
    simp only [hj, dif_pos]
    exact Classical.choose_spec (each j hj)
  refine ⟨(List.range 16).map f, ?_, by simp, fun y hy => ?_⟩
  · apply List.ext_getElem?
    intro j
    by_cases hj : j < 16
    · rw [(hf j hj).1, List.getElem?_map, List.getElem?_map, List.getElem?_range hj]; rfl
    · rw [List.getElem?_eq_none (by omega), List.getElem?_eq_none (by simp; omega)]
  · obtain ⟨j, hj, rfl⟩ := List.mem_map.1 hy
    exact (hf j (List.mem_range.1 hj)).2

theorem sums_of {n : Nat} {v : Value} {x : DataW H × List MemPlace} (h : DataW.trod enc Try.prog W 0 (fun _ => true) true n 28 [v] = some x) : ∃ k S, HoldsS W v k S := by
  rcases open_slice Try.underlying28 h with ⟨hcs, _⟩ | ⟨a, len, cap, m, n', D, Pl, hcs, hb, hl, hm, hmm, hx, hi⟩
  · simp at hcs
    subst hcs
    exact ⟨0, [], none, 0, rfl, rfl, by unfold maxLen; omega, (fun _ hx => by cases hx), fun h => by omega⟩
  · simp at hcs
    subst hcs
    have hmc : m = cap := by simpa using hmm
    rw [c40u] at hi
    have each : ∀ i, i < len → ∃ p : List Int, W.cells? 0 (a.add (i * 16)) 16 = some (bv p) ∧ p.length = 16 ∧ Bytes p := fun i him => by
      obtain ⟨cs, hc, ht⟩ := hi i (by omega)
      obtain ⟨p, rfl, hp⟩ := sum_of ht
      exact ⟨p, hc, hp⟩
    have hs : 0 < len → a.spot = none := fun h0 => by
      obtain ⟨p, hc, hp, _⟩ := each 0 h0
      obtain ⟨_, _, hat⟩ := World.cells?_some hc
      have h1 := hat 0 (by omega)
      rw [List.getElem?_map, List.getElem?_eq_getElem (show 0 < p.length by omega)] at h1
      simpa [Addr.add] using World.cell?_spot h1
    have hcell : ∀ j, j < len * 16 → ∃ z : Int, W.cell? (a.add j) = some (.int .u8 z) ∧ 0 ≤ z ∧ z ≤ 255 := fun j hj => by
      obtain ⟨p, hc, hp, hB⟩ := each (j / 16) (by omega)
      obtain ⟨_, _, hat⟩ := World.cells?_some hc
      have h1 := hat (j % 16) (by omega)
      have h2 : (a.add (j / 16 * 16)).add (j % 16) = a.add j := by
        have h3 : j / 16 * 16 + j % 16 = j := by omega
        obtain ⟨b, off, sp⟩ := a
        have h4 : sp = none := hs (by omega)
        subst h4
        rw [add_off, add_off, add_off, Nat.add_assoc, h3]
      rw [h2, List.getElem?_map, List.getElem?_eq_getElem (show j % 16 < p.length by omega)] at h1
      exact ⟨_, h1, hB _ (List.getElem_mem _)⟩
    obtain ⟨f, hf⟩ : ∃ f : Nat → Int, ∀ j, j < len * 16 → W.cell? (a.add j) = some (.int .u8 (f j)) ∧ 0 ≤ f j ∧ f j ≤ 255 := by
      refine ⟨fun j => if h : j < len * 16 then Classical.choose (hcell j h) else 0, fun j hj => ?_⟩
      simp only [hj, dif_pos]
      exact Classical.choose_spec (hcell j hj)
    refine ⟨len, (List.range (len * 16)).map f, some a, cap, rfl, by simp, by omega, fun y hy => ?_, fun h0 => ?_⟩
    · obtain ⟨j, hj, rfl⟩ := List.mem_map.1 hy
      exact (hf j (List.mem_range.1 hj)).2
    · obtain ⟨b, off, spot⟩ := a
      have h00 := (hf 0 (by omega)).1
      have hspot : spot = none := by simpa [Addr.add] using World.cell?_spot h00
      subst hspot
      refine ⟨b, off, rfl, by simpa [Addr.add] using World.block_lt_of_cell? W _ h00, fun j hj => ?_⟩
      have := (hf j hj).1
      rw [add_off] at this
      rw [this, List.getD_eq_getElem?_getD, List.getElem?_map, List.getElem?_range hj]; rfl
end

theorem cut {α : Type} (cs : List α) (k m : Nat) : (cs.drop k).take m ++ cs.drop (k + m) = cs.drop k := by rw [← List.drop_drop, List.take_append_drop]
theorem takeU1 {cs : List Value} {k : Nat} {v : Value} (h : (cs.drop k).take 1 = [v]) : cs[k]? = some v := by
  have h4 := congrArg (fun l : List Value => l[0]?) h
  simpa [List.getElem?_take, List.getElem?_drop] using h4
theorem c105u : Try.prog.cellsOf 32 = 22 := by kernel_rfl
theorem c103u : Try.prog.cellsOf 30 = 18 := by kernel_rfl
theorem c100u : Try.prog.cellsOf 26 = 3 := by kernel_rfl
theorem c101u : Try.prog.cellsOf 28 = 1 := by kernel_rfl
theorem c98u : Try.prog.cellsOf 24 = 1 := by kernel_rfl
theorem c3u : Try.prog.cellsOf 3 = 1 := by kernel_rfl
theorem c52u : Try.prog.cellsOf 49 = 2 := by kernel_rfl
/-- An entry that came in. -/
structure ELo (W : World) (z : E3) : Prop where
  l : z.1.lf.length = 16
  b : Bytes z.1.lf
  e : 0 ≤ z.1.e ∧ z.1.e ≤ 4294967295
  s : 0 ≤ z.1.s ∧ z.1.s ≤ 4294967295
  hw : HoldsS W (.slice z.1.wa z.1.wn z.1.wc) z.1.wn z.2.1
  hp : HoldsS W (.slice z.1.pa z.1.pn z.1.pc) z.1.pn z.2.2
structure HoldsO (W : World) (a : Option Addr) (n : Nat) (f : Nat → E3) : Prop where
  m : n ≤ maxLen
  e : ∀ i, i < n → ELo W (f i)
  c : ∀ i, i < n → ∃ b off, a = some ⟨b, off, none⟩ ∧ b < W.heap.size ∧ W.rangeAt b (off + i * 22) (ec (f i).1)
theorem HoldsS.max {W : World} {v : Value} {n : Nat} {S : List Int} (h : HoldsS W v n S) : n ≤ maxLen := by
  obtain ⟨a, cap, h1, h2, h3, _⟩ := h
  exact h3
theorem HoldsO.light {W : World} {a : Option Addr} {n : Nat} {f : Nat → E3} (h : HoldsO W a n f) : HoldsL W a n (fun i => (f i).1) :=
  ⟨fun i hi => (h.e i hi).l, fun i hi => ⟨(h.e i hi).hw.max, (h.e i hi).hp.max⟩, h.c⟩
theorem HoldsS.under {W : World} {a : Option Addr} {n c : Nat} {S : List Int} (h : HoldsS W (.slice a n c) n S) : 0 < n → ∀ b, (Value.slice a n c).ownBlock = some b → b < W.heap.size := by
  obtain ⟨a', cap, h1, h2, h3, h4, h5⟩ := h
  intro h0 b hb
  obtain ⟨b', off, ha, hlt, _⟩ := h5 h0
  simp only [Value.slice.injEq] at h1
  rw [h1.1, ha] at hb
  have : b' = b := by simpa [Value.ownBlock] using hb
  omega
theorem HoldsO.weak {W : World} {a : Option Addr} {n : Nat} {f : Nat → E3} (h : HoldsO W a n f) (hl : ∀ i, i < n → (f i).1.wn ≤ 65535 ∧ (f i).1.pn ≤ 65535) : HoldsW W W.heap.size a n f :=
  ⟨fun i hi => ⟨(h.e i hi).l, (h.e i hi).b, (h.e i hi).e, (h.e i hi).s, (hl i hi).1, (hl i hi).2, (h.e i hi).hw, (h.e i hi).hp, (h.e i hi).hw.under, (h.e i hi).hp.under⟩, fun i hi => by
    obtain ⟨b, off, e1, e2, e3⟩ := h.c i hi
    exact ⟨b, off, e1, e2, e2, e3⟩⟩
section
variable {H : Type} {enc : TypeId × Value → H} {W : World}
theorem one_of {cs : List Value} {k : Nat} (h : k < cs.length) : ∃ v, (cs.drop k).take 1 = [v] := by
  have h1 : ((cs.drop k).take 1).length = 1 := by simp; omega
  match (cs.drop k).take 1, h1 with
  | [v], _ => exact ⟨v, rfl⟩
theorem entry_trod {fuel : Nat} {cs : List Value} {x : DataW H × List MemPlace} (hf : DataW.trod enc Try.prog W 0 (fun _ => true) true fuel 32 cs = some x) : ∃ z : E3, cs = ec z.1 ∧ ELo W z := by
  obtain ⟨y0, y1, y2, n, _, hl, t0, t1, t2⟩ := trod_struct3 Try.underlying32 hf
  rw [c105u] at hl
  simp only [c3u, c100u, c103u] at t0 t1 t2
  obtain ⟨d, e0, _, wd⟩ := DataW.trod_int Try.underlying3 t0
  obtain ⟨k0, k1, k2, n2, _, hl2, q0, q1, q2⟩ := trod_struct3 Try.underlying26 t1
  simp only [c98u, c3u] at q0 q1 q2
  obtain ⟨e, e1, _, we⟩ := DataW.trod_int Try.underlying24 q0
  obtain ⟨s, e2, _, ws⟩ := DataW.trod_int Try.underlying24 q1
  obtain ⟨m, e3, _, wm⟩ := DataW.trod_int Try.underlying3 q2
  obtain ⟨r0, r1, r2, n3, _, hl3, s0, s1, s2⟩ := trod_struct3 Try.underlying30 t2
  simp only [c40u, c101u] at s0 s1 s2
  obtain ⟨lf, e4, hlf, hbf⟩ := sum_of s0
  rw [c100u] at hl2
  rw [c103u] at hl3
  obtain ⟨vw, e5⟩ := one_of (cs := (cs.drop 4).take 18) (k := 16) (by omega)
  obtain ⟨vp, e6⟩ := one_of (cs := (cs.drop 4).take 18) (k := 17) (by omega)
  rw [show (((cs.drop 4).take 18).drop 16).take 1 = [vw] from e5] at s1
  rw [show (((cs.drop 4).take 18).drop 17).take 1 = [vp] from e6] at s2
  obtain ⟨nw, Sw, hSw⟩ := sums_of s1
  obtain ⟨np, Sp, hSp⟩ := sums_of s2
  obtain ⟨wa, wc, rfl, hrw⟩ := hSw
  obtain ⟨pa, pc, rfl, hrp⟩ := hSp
  refine ⟨(⟨d, e, s, m, lf, wa, nw, wc, pa, np, pc⟩, Sw, Sp), ?_, hlf, hbf, u32_of we, u32_of ws, ⟨wa, wc, rfl, hrw⟩, ⟨pa, pc, rfl, hrp⟩⟩
  have hk : (cs.drop 1).take 3 = [.int .u32 e, .int .u32 s, .int .i64 m] := by
    match (cs.drop 1).take 3, hl2, e1, e2, e3 with
    | [v0, v1, v2], _, e1, e2, e3 =>
      have g0 := takeU1 e1
      have g1 := takeU1 e2
      have g2 := takeU1 e3
      simp at g0 g1 g2
      rw [g0, g1, g2]
  have hc : (cs.drop 4).take 18 = bv lf ++ [.slice wa nw wc, .slice pa np pc] := by
    have h0 := cut ((cs.drop 4).take 18) 0 16
    have h1 := cut ((cs.drop 4).take 18) 16 1
    have h2 : (((cs.drop 4).take 18).drop 17).take 1 = ((cs.drop 4).take 18).drop 17 := List.take_of_length_le (by rw [List.length_drop]; omega)
    rw [show (((cs.drop 4).take 18).drop 0).take 16 = bv lf from e4, List.drop_zero] at h0
    rw [e5] at h1
    rw [e6] at h2
    rw [← h0, ← h1, ← h2]
    rfl
  have h0 := cut cs 0 1
  have h1 := cut cs 1 3
  have h2 : (cs.drop 4).take 18 = cs.drop 4 := List.take_of_length_le (by simp; omega)
  rw [show (cs.drop 0).take 1 = [.int .i64 d] from e0] at h0
  rw [hk] at h1
  rw [hc] at h2
  rw [List.drop_zero] at h0
  rw [← h0, ← h1, ← h2]
  simp [ec]
theorem row_entries {a : Option Addr} {len cap n0 : Nat} {x : DataW H × List MemPlace} (hf : DataW.trod enc Try.prog W 0 (fun _ => true) true n0 22 [.slice a len cap] = some x) : ∃ f : Nat → E3, HoldsO W a len f := by
  rcases open_slice Try.underlying22 hf with ⟨hcs, _⟩ | ⟨x, l, c, m, n, D, Pl, hcs, hb, hl, hm, hmm, hx, hi⟩
  · simp at hcs
    obtain ⟨rfl, rfl, rfl⟩ := hcs
    exact ⟨fun _ => (x0, [], []), by unfold maxLen; omega, fun i hi => by omega, fun i hi => by omega⟩
  · simp at hcs
    obtain ⟨rfl, rfl, rfl⟩ := hcs
    have hmc : m = cap := by simpa using hmm
    subst hmc
    have each : ∀ i, i < m → ∃ z : E3, W.cells? 0 (x.add (i * 22)) 22 = some (ec z.1) ∧ ELo W z := fun i him => by
      obtain ⟨cs, hc, ht⟩ := hi i him
      rw [c105u] at hc
      obtain ⟨z, rfl, hz⟩ := entry_trod ht
      exact ⟨z, hc, hz⟩
    obtain ⟨f, hf'⟩ : ∃ f : Nat → E3, ∀ i, i < m → W.cells? 0 (x.add (i * 22)) 22 = some (ec (f i).1) ∧ ELo W (f i) := by
      refine ⟨fun i => if h : i < m then Classical.choose (each i h) else (x0, [], []), fun i hi => ?_⟩
      simp only [hi, dif_pos]
      exact Classical.choose_spec (each i hi)
    refine ⟨f, by omega, fun i hi => (hf' i (by omega)).2, fun i hi' => ?_⟩
    obtain ⟨b, off, spot⟩ := x
    obtain ⟨hc, hok⟩ := hf' i (by omega)
    obtain ⟨_, hcl, hat⟩ := World.cells?_some hc
    obtain ⟨hc0, hok0⟩ := hf' 0 (by omega)
    obtain ⟨_, hcl0, hat0⟩ := World.cells?_some hc0
    have h0 := hat0 0 (by omega)
    rw [ec_0] at h0
    have hspot : spot = none := by simpa [Addr.add] using World.cell?_spot h0
    subst hspot
    have hlt : b < W.heap.size := by
      have := World.block_lt_of_cell? W _ h0
      simpa [Addr.add] using this
    refine ⟨b, off, rfl, hlt, fun j v hv => ?_⟩
    have hj : j < 22 := by
      have h1 := (List.getElem?_eq_some_iff.1 hv).1
      rw [ec_len hok.l] at h1
      exact h1
    have h9 := hat j hj
    have e : (Addr.add { block := b, off := off, spot := none } (i * 22)).add j = ⟨b, off + (i * 22 + j), none⟩ := by rw [add_off, add_off, Nat.add_assoc]
    rw [e, ← Nat.add_assoc] at h9
    rw [h9]
    exact hv
set_option maxRecDepth 100000 in
theorem update_open {b0 : Nat} {v : Value} {d : DataW H} {p : List MemPlace} (hv : Value.okWide Try.prog W .any b0 49 v)
    (k : DataW.Trod enc Try.prog W 0 (fun _ => true) true 49 v d p) : ∃ (u : Bool) (a : Option Addr) (n c : Nat) (f : Nat → E3), v = .agg #[.bool u, .slice a n c] ∧ HoldsO W a n f := by
  obtain ⟨c0, c1, y0, y1, m, rfl, e, q, hy0, hy1⟩ := open_agg2 Try.underlying49 (by kernel_rfl) c52u hv k
  obtain ⟨u, e0, -⟩ := DataW.trod_bool Try.underlying4 hy0
  simp only [List.cons.injEq, and_true] at e0
  subst e0
  have hsh : ∃ a n c, c1 = .slice a n c := by
    rcases DataW.trod_slice Try.underlying22 hy1 with ⟨h1, _⟩ | ⟨a, len, cap, _, _, _, _, h1, _⟩
    · simp at h1; exact ⟨_, _, _, h1⟩
    · simp at h1; exact ⟨_, _, _, h1⟩
  obtain ⟨a, n, c, rfl⟩ := hsh
  obtain ⟨f, hf⟩ := row_entries hy1
  exact ⟨u, a, n, c, f, rfl, hf⟩
end
end Go.Proofs.Ytioeaknhcfkfcaa

namespace Go.Proofs.Ytioeaknhcfkfcaa
open Go.RowKit

theorem digs_succU (n : Int) (k : Nat) : digs n (k + 1) = digs (n / 256) k ++ [n % 256] := by
  unfold digs
  rw [List.range_succ, List.map_append]
  congr 1
  · apply List.map_congr_left
    intro i hi
    have hi' := List.mem_range.1 hi
    have e : k + 1 - 1 - i = (k - 1 - i) + 1 := by omega
    rw [e, Int.pow_succ, Int.mul_comm, ← Int.ediv_ediv_of_nonneg (by omega)]
  · simp
theorem numOf_digsU : ∀ (k : Nat) (n : Int), 0 ≤ n → n < 256 ^ k → k ≤ 8 → numOf (digs n k) = n := by
  intro k
  induction k with
  | zero =>
    intro n h0 h1 _
    have : n = 0 := by simpa using (show n < 1 ∧ 0 ≤ n from ⟨by simpa using h1, h0⟩) |> fun h => by omega
    subst this
    rfl
  | succ k ih =>
    intro n h0 h1 h8
    rw [digs_succU, numOf_snoc, ih (n / 256) (by omega) (by rw [Int.pow_succ] at h1; omega) (by omega)]
    have h2 : (256 : Int) ^ (k + 1) ≤ 256 ^ 8 := by
      have e : (256 : Int) ^ 8 = 256 ^ (k + 1) * 256 ^ (8 - (k + 1)) := by rw [← Int.pow_add]; congr 1; omega
      have h3 : (0 : Int) < 256 ^ (k + 1) := Int.pow_pos (by omega)
      have h4 : (1 : Int) ≤ 256 ^ (8 - (k + 1)) := Int.pow_pos (by omega)
      rw [e]
      have := Int.mul_le_mul_of_nonneg_left h4 (Int.le_of_lt h3)
      omega
    have h3 : (256 : Int) ^ 8 = 18446744073709551616 := by decide
    rw [Int.emod_eq_of_lt (by omega) (by omega)]
    omega
theorem drop_lenU {B L R : List Int} {a : Nat} (h : B.drop a = L ++ R) : B.length - a = L.length + R.length := by
  have := congrArg List.length h
  simpa using this
theorem drop_onU {B L R : List Int} {a k : Nat} (h : B.drop a = L ++ R) (hk : L.length = k) : B.drop (a + k) = R := by
  rw [← List.drop_drop, h, List.drop_left' hk]
theorem raw_atU {B L R : List Int} {a k : Nat} (h : B.drop a = L ++ R) (hk : L.length = k) : stp B k (a, 0) = (a + k, 0) ∧ rawP B a 0 k = L := by
  have hl := drop_lenU h
  rw [hk] at hl
  constructor
  · unfold stp rawA rawE
    rw [if_pos ⟨rfl, by simp only; omega⟩, if_neg (by simp only; omega)]
  · unfold rawP
    rw [if_pos ⟨rfl, by omega⟩, h, List.take_left' hk]
theorem num_atU {B R : List Int} {a k : Nat} {x : Int} (h : B.drop a = digs x k ++ R) (h0 : 0 ≤ x) (h1 : x < 256 ^ k) (hk : k ≤ 8) : stp B k (a, 0) = (a + k, 0) ∧ numOf (rawP B a 0 k) = x ∧ B.drop (a + k) = R := by
  obtain ⟨e1, e2⟩ := raw_atU h (digs_len _ _)
  exact ⟨e1, by rw [e2]; exact numOf_digsU k x h0 h1 hk, drop_onU h (digs_len _ _)⟩
theorem sum_atU {B L R : List Int} {a : Nat} (h : B.drop a = L ++ R) (hk : L.length = 16) : stp B 16 (a, 0) = (a + 16, 0) ∧ rsumP B a 0 = L ∧ B.drop (a + 16) = R := by
  obtain ⟨e1, -⟩ := raw_atU h hk
  have hl := drop_lenU h
  refine ⟨e1, ?_, drop_onU h hk⟩
  unfold rsumP
  rw [if_pos ⟨rfl, by omega⟩, h, List.take_left' hk]
theorem ssm_atU {B L R : List Int} {a n : Nat} {most : Int} (h : B.drop a = digs n 1 ++ (L ++ R)) (hk : L.length = n * 16) (hn : n ≤ 255) (hm : (n : Int) ≤ most) : ssm B most (a, 0) = (a + (1 + n * 16), 0) ∧ rsumsP B a 0 most = L ∧ B.drop (a + (1 + n * 16)) = R := by
  obtain ⟨e1, e2, e3⟩ := num_atU h (by omega) (by omega) (by omega)
  have hA : rawA B a 0 1 = a + 1 := congrArg Prod.fst e1
  have hE : rawE B a 0 1 = 0 := congrArg Prod.snd e1
  have hc : cnt1 B a 0 = n := by unfold cnt1; rw [e2]; simp
  have ho : overF most n = false := by
    unfold overF
    rw [decide_eq_false_iff_not]
    split <;> omega
  have hl := drop_lenU e3
  have hE2 : rsumsE B a 0 most = 0 := by
    unfold rsumsE
    rw [hA, hE, hc, ho]
    rw [if_neg (by simp), if_neg (by simp), if_pos (by omega)]
  refine ⟨?_, ?_, ?_⟩
  · unfold ssm
    simp only
    rw [hE2]
    unfold rsumsA
    rw [hA, hE, hc, ho]
    rw [if_neg (by simp), if_neg (by simp), if_pos (by omega), Nat.add_assoc]
  · unfold rsumsP
    rw [if_pos hE2, hA, hc, e3, List.take_left' hk]
  · rw [← Nat.add_assoc]
    exact drop_onU e3 hk
/-- An entry that was laid is what is taken. -/
theorem ent_atU {B wl pl R : List Int} {a : Nat} {x : EV} (ok : x.Ok) (hw : wl.length = x.wn * 16) (hp : pl.length = x.pn * 16) (h : B.drop a = entB x wl pl ++ R) :
    gs7 B (a, 0) = (a + (entB x wl pl).length, 0) ∧ (nD B (a, 0) = x.d ∧ nE B (a, 0) = x.e ∧ nS B (a, 0) = x.s ∧ nM B (a, 0) = x.m ∧ nL B (a, 0) = x.lf) ∧ nW B (a, 0) = wl ∧ nP B (a, 0) = pl ∧ B.drop (a + (entB x wl pl).length) = R := by
  have hlen : (entB x wl pl).length = 1 + 4 + 1 + 1 + 16 + (1 + x.wn * 16) + (1 + x.pn * 16) := by
    unfold entB
    simp only [List.length_append, digs_len, ok.l, hw, hp]
    omega
  have hB : B.drop a = digs x.d 1 ++ (digs x.e 4 ++ (digs x.s 1 ++ (digs x.m 1 ++ (x.lf ++ (digs x.wn 1 ++ (wl ++ (digs x.pn 1 ++ (pl ++ R)))))))) := by rw [h]; unfold entB; simp only [List.append_assoc]
  have q1 := ok.d
  have q2 := ok.e
  have q3 := ok.s
  have q4 := ok.m
  have q5 := ok.w
  have q6 := ok.p
  obtain ⟨a1, b1, c1⟩ := num_atU hB (by omega) (by omega) (by omega)
  obtain ⟨a2, b2, c2⟩ := num_atU c1 (by omega) (by omega) (by omega)
  obtain ⟨a3, b3, c3⟩ := num_atU c2 (by omega) (by omega) (by omega)
  obtain ⟨a4, b4, c4⟩ := num_atU c3 (by omega) (by omega) (by omega)
  obtain ⟨a5, b5, c5⟩ := sum_atU c4 ok.l
  obtain ⟨a6, b6, c6⟩ := ssm_atU (most := 3) c5 hw (by omega) (by omega)
  obtain ⟨a7, b7, c7⟩ := ssm_atU (most := 6) c6 hp (by omega) (by omega)
  have g1 : gs1 B (a, 0) = (a + 1, 0) := a1
  have g2 : gs2 B (a, 0) = (a + 1 + 4, 0) := by unfold gs2; rw [g1]; exact a2
  have g3 : gs3 B (a, 0) = (a + 1 + 4 + 1, 0) := by unfold gs3; rw [g2]; exact a3
  have g4 : gs4 B (a, 0) = (a + 1 + 4 + 1 + 1, 0) := by unfold gs4; rw [g3]; exact a4
  have g5 : gs5 B (a, 0) = (a + 1 + 4 + 1 + 1 + 16, 0) := by unfold gs5; rw [g4]; exact a5
  have g6 : gs6 B (a, 0) = (a + 1 + 4 + 1 + 1 + 16 + (1 + x.wn * 16), 0) := by unfold gs6; rw [g5]; exact a6
  have g7 : gs7 B (a, 0) = (a + 1 + 4 + 1 + 1 + 16 + (1 + x.wn * 16) + (1 + x.pn * 16), 0) := by unfold gs7; rw [g6]; exact a7
  have hend : a + (entB x wl pl).length = a + 1 + 4 + 1 + 1 + 16 + (1 + x.wn * 16) + (1 + x.pn * 16) := by omega
  refine ⟨by rw [g7, hend], ⟨b1, by unfold nE; rw [g1]; exact b2, by unfold nS; rw [g2]; exact b3, by unfold nM; rw [g3]; exact b4, by unfold nL; rw [g4]; exact b5⟩, by unfold nW; rw [g5]; exact b6, by unfold nP; rw [g6]; exact b7, by rw [hend]; exact c7⟩
end Go.Proofs.Ytioeaknhcfkfcaa

namespace Go.Proofs.Ytioeaknhcfkfcaa
open Go.RowKit

theorem entsB_cut (f : Nat → E3) : ∀ (k i : Nat), ∃ R, entsB f (i + k) = entsB f i ++ R
  | 0, i => ⟨[], by simp⟩
  | k + 1, i => by
    obtain ⟨R, e⟩ := entsB_cut f k i
    exact ⟨R ++ entB (f (i + k)).1 (f (i + k)).2.1 (f (i + k)).2.2, by rw [← Nat.add_assoc, entsB_succ, e, List.append_assoc]⟩
theorem entsB_at (f : Nat → E3) {i n : Nat} (h : i < n) : ∃ R, entsB f n = entsB f i ++ (entB (f i).1 (f i).2.1 (f i).2.2 ++ R) := by
  obtain ⟨R, e⟩ := entsB_cut f (n - (i + 1)) (i + 1)
  rw [show i + 1 + (n - (i + 1)) = n by omega] at e
  exact ⟨R, by rw [e, entsB_succ, List.append_assoc]⟩
theorem upd_head {u : Bool} {f : Nat → E3} {n : Nat} (hn : n ≤ 8) : uFull (updB u f n) = fullN u ∧ us3 (updB u f n) = (2, 0) ∧ uK (updB u f n) = n ∧ (updB u f n).drop 2 = entsB f n := by
  obtain ⟨B, hB⟩ : ∃ B, B = updB u f n := ⟨_, rfl⟩
  have h0 : B.drop 0 = digs (fullN u) 1 ++ (digs n 1 ++ entsB f n) := by rw [hB]; unfold updB; simp
  have hf : 0 ≤ fullN u ∧ fullN u ≤ 1 := by unfold fullN; cases u <;> simp
  rw [← hB]
  obtain ⟨a1, b1, c1⟩ := num_atU h0 hf.1 (by omega) (by omega)
  obtain ⟨a2, b2, c2⟩ := num_atU c1 (by omega) (by omega) (by omega)
  have e1 : uFull B = fullN u := b1
  have e2 : us1 B = (1, 0) := by
    unfold us1
    rw [a1, e1, if_neg (by omega)]
  have e3 : uN B = n := by unfold uN; rw [e2]; exact b2
  have e4 : us2 B = (2, 0) := by unfold us2; rw [e2]; exact a2
  refine ⟨e1, ?_, ?_, c2⟩
  · unfold us3
    rw [e4, e3, if_neg (by omega)]
  · unfold uK
    rw [e3, if_neg (by omega)]
    simp
/-- What stands at the j-th place of what was laid. -/
theorem upd_taken {w : World} {M : Nat} {a : Option Addr} {u : Bool} {f : Nat → E3} {n : Nat} (h : HoldsE w M a n f) (hok : updOk f n = true) (hn : n ≤ 8) :
    (∀ i, i ≤ n → uT (updB u f n) i = ((2 + (entsB f i).length, 0), lastD f i)) ∧ (∀ i, i < n → (nD (updB u f n) (uT (updB u f n) i).1 = (f i).1.d ∧ nE (updB u f n) (uT (updB u f n) i).1 = (f i).1.e ∧ nS (updB u f n) (uT (updB u f n) i).1 = (f i).1.s ∧ nM (updB u f n) (uT (updB u f n) i).1 = (f i).1.m ∧ nL (updB u f n) (uT (updB u f n) i).1 = (f i).1.lf) ∧ nW (updB u f n) (uT (updB u f n) i).1 = (f i).2.1 ∧ nP (updB u f n) (uT (updB u f n) i).1 = (f i).2.2) := by
  obtain ⟨e1, e2, e3, e4⟩ := upd_head (u := u) (f := f) hn
  obtain ⟨B, hB⟩ : ∃ B, B = updB u f n := ⟨_, rfl⟩
  rw [← hB] at e1 e2 e3 e4 ⊢
  have key : ∀ i, i < n → uT B i = ((2 + (entsB f i).length, 0), lastD f i) → gs7 B (uT B i).1 = (2 + (entsB f (i + 1)).length, 0) ∧ (nD B (uT B i).1 = (f i).1.d ∧ nE B (uT B i).1 = (f i).1.e ∧ nS B (uT B i).1 = (f i).1.s ∧ nM B (uT B i).1 = (f i).1.m ∧ nL B (uT B i).1 = (f i).1.lf) ∧ nW B (uT B i).1 = (f i).2.1 ∧ nP B (uT B i).1 = (f i).2.2 ∧ folB (lastD f i) (f i).1 = true := fun i hi ht => by
    have hs := updOk_le hok (show i + 1 ≤ n by omega)
    rw [updOk_succ, Bool.and_eq_true] at hs
    have hei := h.e i hi
    have ok := EV.ok_of hei hs.2
    obtain ⟨R, hR⟩ := entsB_at f hi
    have hd : B.drop (2 + (entsB f i).length) = entB (f i).1 (f i).2.1 (f i).2.2 ++ R := by
      rw [← List.drop_drop, e4, hR, List.drop_left]
    have hw : (f i).2.1.length = (f i).1.wn * 16 := by obtain ⟨_, _, _, e, _⟩ := hei.hw; exact e
    have hp : (f i).2.2.length = (f i).1.pn * 16 := by obtain ⟨_, _, _, e, _⟩ := hei.hp; exact e
    obtain ⟨k1, k2, k3, k4, -⟩ := ent_atU ok hw hp hd
    rw [ht]
    refine ⟨?_, k2, k3, k4, hs.2⟩
    rw [k1, entsB_succ, List.length_append, Nat.add_assoc]
  have all : ∀ i, i ≤ n → uT B i = ((2 + (entsB f i).length, 0), lastD f i) := fun i => by
    induction i with
    | zero =>
      intro _
      rw [show uT B 0 = (us3 B, -1) from rfl, e2]
      rfl
    | succ i ih =>
      intro hi
      have ht := ih (by omega)
      obtain ⟨k1, ⟨kd, ke, ks, km, -⟩, -, -, k5⟩ := key i (by omega) ht
      have hfol : uFol B (uT B i).2 (uT B i).1 = true := by
        unfold uFol
        rw [kd, ke, ks, km, ht]
        unfold folB at k5
        simp only [Bool.and_eq_true] at k5 ⊢
        exact ⟨k5.1, k5.2.1⟩
      rw [show uT B (i + 1) = (((gs7 B (uT B i).1).1, if uFol B (uT B i).2 (uT B i).1 = true then (gs7 B (uT B i).1).2 else failE (gs7 B (uT B i).1).2 10), nD B (uT B i).1) from rfl, if_pos hfol, k1, kd]
      rfl
  exact ⟨all, fun i hi => by
    obtain ⟨-, k2, k3, k4, -⟩ := key i hi (all i (by omega))
    exact ⟨k2, k3, k4⟩⟩
theorem upd_end {w : World} {M : Nat} {a : Option Addr} {u : Bool} {f : Nat → E3} {n : Nat} (h : HoldsE w M a n f) (hok : updOk f n = true) (hn : n ≤ 8) : uEnd (updB u f n) = 0 := by
  obtain ⟨e1, e2, e3, e4⟩ := upd_head (u := u) (f := f) hn
  have hT := (upd_taken (u := u) h hok hn).1 n (Nat.le_refl _)
  have hl : (updB u f n).length = 2 + (entsB f n).length := by
    unfold updB
    simp only [List.length_append, digs_len]
  unfold uEnd
  rw [e3, hT]
  unfold rleft
  simp only
  rw [hl]
  simp
end Go.Proofs.Ytioeaknhcfkfcaa

namespace Go.Proofs.Ytioeaknhcfkfcaa
open Go.RowKit

/-- The entries of a list, by their places. -/
def nthE (xs : List E3) (i : Nat) : E3 := (xs[i]?).getD (x0, [], [])
theorem nthE_at {xs : List E3} {i : Nat} {z : E3} (h : xs[i]? = some z) : nthE xs i = z := by unfold nthE; rw [h]; rfl
theorem nW_few (B : List Int) (s : Nat × Int) : (nW B s).length ≤ 3 * 16 := by
  unfold nW
  by_cases h : rsumsE B (gs5 B s).1 (gs5 B s).2 3 = 0
  · exact rsums_few (most := 3) h
  · unfold rsumsP
    rw [if_neg h]
    simp
theorem nP_few (B : List Int) (s : Nat × Int) : (nP B s).length ≤ 6 * 16 := by
  unfold nP
  by_cases h : rsumsE B (gs6 B s).1 (gs6 B s).2 6 = 0
  · exact rsums_few (most := 6) h
  · unfold rsumsP
    rw [if_neg h]
    simp
theorem UGood.fit {B : List Int} {n : Nat} {xs : List E3} (hb : Bytes B) (h : UGood B n xs) (hw : ∀ z ∈ xs, z.2.1.length = z.1.wn * 16 ∧ z.2.2.length = z.1.pn * 16) :
    ∀ z ∈ xs, (0 ≤ z.1.e ∧ z.1.e ≤ 4294967295) ∧ (0 ≤ z.1.s ∧ z.1.s ≤ 4294967295) ∧ z.1.wn ≤ 65535 ∧ z.1.pn ≤ 65535 := fun z hz => by
  obtain ⟨j, hj⟩ := List.getElem?_of_mem hz
  obtain ⟨⟨h1, h2, h3, h4, h5⟩, h6, h7⟩ := h.2 j z hj
  have w1 := (hw z hz).1
  have w2 := (hw z hz).2
  have f1 := nW_few B (uT B j).1
  have f2 := nP_few B (uT B j).1
  rw [← h6] at f1
  rw [← h7] at f2
  have k4 := num4 (rawP_len B (gs1 B (uT B j).1).1 (gs1 B (uT B j).1).2 4) (rawP_bytes hb _ _ _)
  have k1 := num1 hb (gs2 B (uT B j).1).1 (gs2 B (uT B j).1).2
  have e2 : z.1.e = numOf (rawP B (gs1 B (uT B j).1).1 (gs1 B (uT B j).1).2 4) := h2
  have e3 : z.1.s = numOf (rawP B (gs2 B (uT B j).1).1 (gs2 B (uT B j).1).2 1) := h3
  rw [← e2] at k4
  rw [← e3] at k1
  exact ⟨⟨k4.1, by omega⟩, ⟨k1.1, by omega⟩, by omega, by omega⟩
/-- What GetUpdate answers, as an update in memory. -/
theorem UGood.holds {B : List Int} {W : World} {te t base k : Nat} {a : Option Addr} {n c : Nat} {xs : List E3} (hb : Bytes B) (h : UGood B k xs) (hs : EOs W te t base (.slice a n c) xs) : HoldsE W W.heap.size a n (nthE xs) ∧ n = k := by
  have hn : n = xs.length := ownsRow_len hs.v
  exact ⟨hs.holds (nthE xs) (fun i z hz => nthE_at hz) (h.fit hb fun z hz => ⟨(hs.e z hz).wl, (hs.e z hz).pl⟩) hn, by rw [hn]; exact h.1⟩
theorem stp_stuck {B : List Int} {k : Nat} {s : Nat × Int} (h : s.2 ≠ 0) : (stp B k s).2 = s.2 := by
  unfold stp rawE
  simp [h]
theorem ssm_stuck {B : List Int} {m : Int} {s : Nat × Int} (h : s.2 ≠ 0) : (ssm B m s).2 = s.2 := rsumsE_bad h
theorem gs7_stuck {B : List Int} {s : Nat × Int} (h : s.2 ≠ 0) : (gs7 B s).2 = s.2 := by
  have h1 : (gs1 B s).2 = s.2 := stp_stuck h
  have h2 : (gs2 B s).2 = s.2 := (stp_stuck (by rw [h1]; exact h)).trans h1
  have h3 : (gs3 B s).2 = s.2 := (stp_stuck (by rw [h2]; exact h)).trans h2
  have h4 : (gs4 B s).2 = s.2 := (stp_stuck (by rw [h3]; exact h)).trans h3
  have h5 : (gs5 B s).2 = s.2 := (stp_stuck (by rw [h4]; exact h)).trans h4
  have h6 : (gs6 B s).2 = s.2 := (ssm_stuck (by rw [h5]; exact h)).trans h5
  exact (ssm_stuck (by rw [h6]; exact h)).trans h6
/-- An error stays. -/
theorem uT_stuck {B : List Int} {i : Nat} (h : (uT B i).1.2 ≠ 0) : ∀ k, (uT B (i + k)).1.2 = (uT B i).1.2
  | 0 => rfl
  | k + 1 => by
    have ih := uT_stuck h k
    have g : (gs7 B (uT B (i + k)).1).2 = (uT B i).1.2 := (gs7_stuck (by rw [ih]; exact h)).trans ih
    rw [← Nat.add_assoc, show (uT B (i + k + 1)).1.2 = (if uFol B (uT B (i + k)).2 (uT B (i + k)).1 = true then (gs7 B (uT B (i + k)).1).2 else failE (gs7 B (uT B (i + k)).1).2 10) from rfl, g]
    split
    · rfl
    · unfold failE
      rw [if_neg (fun e => h e.1)]
/-- Who stops at the first error ends as who goes on. -/
theorem uEnd_stop {B : List Int} {i : Nat} (hi : i ≤ uK B) (h : i = uK B ∨ (uT B i).1.2 ≠ 0) : (if 0 < rleft B (uT B i).1.1 (uT B i).1.2 then 10 else (uT B i).1.2) = uEnd B := by
  rcases h with rfl | h
  · rfl
  · have e := uT_stuck h (uK B - i)
    rw [show i + (uK B - i) = uK B by omega] at e
    unfold uEnd rleft
    rw [e, if_neg h, if_neg h]
end Go.Proofs.Ytioeaknhcfkfcaa

namespace Go.Proofs.Ytioeaknhcfkfcaa
open Go.RowKit

theorem SameE.symm {x y : E3} (h : SameE x y) : SameE y x := by
  obtain ⟨h1, h2, h3, h4, h5, h6, h7, h8, h9⟩ := h
  exact ⟨h1.symm, h2.symm, h3.symm, h4.symm, h5.symm, h6.symm, h7.symm, h8.symm, h9.symm⟩
theorem SameE.trans {x y z : E3} (h : SameE x y) (g : SameE y z) : SameE x z := by
  obtain ⟨h1, h2, h3, h4, h5, h6, h7, h8, h9⟩ := h
  obtain ⟨g1, g2, g3, g4, g5, g6, g7, g8, g9⟩ := g
  exact ⟨h1.trans g1, h2.trans g2, h3.trans g3, h4.trans g4, h5.trans g5, h6.trans g6, h7.trans g7, h8.trans g8, h9.trans g9⟩
theorem SameE.entB {x y : E3} (h : SameE x y) : entB x.1 x.2.1 x.2.2 = entB y.1 y.2.1 y.2.2 := by
  obtain ⟨h1, h2, h3, h4, h5, h6, h7, h8, h9⟩ := h
  unfold Go.Proofs.Ytioeaknhcfkfcaa.entB
  rw [h1, h2, h3, h4, h5, h6, h7, h8, h9]
theorem SameE.folB {x y : E3} (h : SameE x y) (l : Int) : folB l x.1 = folB l y.1 := by
  obtain ⟨h1, h2, h3, h4, h5, h6, h7, h8, h9⟩ := h
  unfold Go.Proofs.Ytioeaknhcfkfcaa.folB
  rw [h1, h2, h3, h4, h6, h7]
theorem same_lastD {f g : Nat → E3} {n : Nat} (h : ∀ i, i < n → SameE (f i) (g i)) : ∀ k, k ≤ n → lastD f k = lastD g k
  | 0, _ => rfl
  | k + 1, hk => (h k (by omega)).1
theorem same_updOk {f g : Nat → E3} {n : Nat} (h : ∀ i, i < n → SameE (f i) (g i)) : ∀ k, k ≤ n → updOk f k = updOk g k
  | 0, _ => rfl
  | k + 1, hk => by rw [updOk_succ, updOk_succ, same_updOk h k (by omega), same_lastD h k (by omega), (h k (by omega)).folB]
theorem same_entsB {f g : Nat → E3} {n : Nat} (h : ∀ i, i < n → SameE (f i) (g i)) : ∀ k, k ≤ n → entsB f k = entsB g k
  | 0, _ => rfl
  | k + 1, hk => by rw [entsB_succ, entsB_succ, same_entsB h k (by omega), (h k (by omega)).entB]
theorem same_updE {f g : Nat → E3} {n : Nat} (h : ∀ i, i < n → SameE (f i) (g i)) : updE f n = updE g n := by
  unfold updE
  rw [same_updOk h n (Nat.le_refl _)]
theorem same_updX {f g : Nat → E3} {n : Nat} (u : Bool) (h : ∀ i, i < n → SameE (f i) (g i)) : updX u f n = updX u g n := by
  unfold updX updB
  rw [same_updE h, same_entsB h n (Nat.le_refl _)]
theorem updE_one (f : Nat → E3) (n : Nat) : updE f n = 0 ∨ updE f n = 1 ∨ updE f n = 8 := by
  unfold updE
  split
  · exact Or.inr (Or.inr rfl)
  · split
    · exact Or.inl rfl
    · exact Or.inr (Or.inl rfl)
theorem updE_zero {f : Nat → E3} {n : Nat} (h : updE f n = 0) : n ≤ 8 ∧ updOk f n = true := by
  unfold updE at h
  split at h
  · omega
  · split at h
    · rename_i h1 h2
      exact ⟨by omega, h2⟩
    · omega
theorem updX_len {w : World} {M : Nat} {a : Option Addr} {u : Bool} {f : Nat → E3} {n : Nat} (h : HoldsE w M a n f) : (updX u f n).length ≤ 140737488351232 := by
  unfold updX
  split
  · rename_i h0
    obtain ⟨h8, hok⟩ := updE_zero h0
    have key : ∀ k, k ≤ n → (entsB f k).length ≤ k * 200 := fun k => by
      induction k with
      | zero => intro _; simp [entsB]
      | succ k ih =>
        intro hk
        have i1 := ih (by omega)
        have o1 := updOk_le hok hk
        rw [updOk_succ] at o1
        have i2 := entB_len (h.e k (by omega)) (by simpa using (Bool.and_eq_true _ _ ▸ o1 : _ ∧ _).2)
        rw [entsB_succ, List.length_append]
        omega
    have := key n (Nat.le_refl _)
    unfold updB
    rw [List.length_append, List.length_append, digs_len, digs_len]
    omega
  · simp
theorem HoldsW.mono {w : World} {M M' n : Nat} {a : Option Addr} {f : Nat → E3} (h : HoldsW w M a n f) (hM : M ≤ M') : HoldsW w M' a n f :=
  ⟨fun i hi => ⟨(h.e i hi).l, (h.e i hi).b, (h.e i hi).e, (h.e i hi).s, (h.e i hi).wn, (h.e i hi).pn, (h.e i hi).hw, (h.e i hi).hp, fun h0 b hq => Nat.lt_of_lt_of_le ((h.e i hi).wb h0 b hq) hM, fun h0 b hq => Nat.lt_of_lt_of_le ((h.e i hi).pb h0 b hq) hM⟩,
   fun i hi => by
    obtain ⟨b, off, e1, e2, e3, e4⟩ := h.c i hi
    exact ⟨b, off, e1, by omega, e3, e4⟩⟩
theorem HoldsW.grow {w w' : World} {n : Nat} {a : Option Addr} {f : Nat → E3} (h : HoldsW w w.heap.size a n f) (hb : Below w.heap.size w w') : HoldsW w' w'.heap.size a n f := (h.keep hb).mono hb.size
theorem same_nth {f : Nat → E3} {n : Nat} {xs : List E3} (hl : xs.length = n) (hs : ∀ j z, xs[j]? = some z → SameE (f j) z) : ∀ i, i < n → SameE (f i) (nthE xs i) := fun i hi => by
  have e : xs[i]? = some xs[i] := List.getElem?_eq_getElem (by omega)
  rw [nthE_at e]
  exact hs i _ e
/-- What To and From make, as an update in memory. -/
theorem made_holds {w W : World} {te t base M : Nat} {a a' : Option Addr} {n c : Nat} {f : Nat → E3} {xs : List E3} (h : HoldsW w M a' n f) (hs : EOs W te t base (.slice a n c) xs) (hl : xs.length = n) (he : ∀ j z, xs[j]? = some z → SameE (f j) z) :
    HoldsE W W.heap.size a n (nthE xs) ∧ ∀ i, i < n → SameE (f i) (nthE xs i) :=
  ⟨hs.holds (nthE xs) (fun i z hz => nthE_at hz) (fun z hz => by
    obtain ⟨j, hj⟩ := List.getElem?_of_mem hz
    have hjl : j < n := by rw [← hl]; exact (List.getElem?_eq_some_iff.1 hj).1
    obtain ⟨h1, h2, h3, h4, h5, h6, h7, h8, h9⟩ := he j z hj
    have g := h.e j hjl
    exact ⟨by rw [← h2]; exact g.e, by rw [← h3]; exact g.s, by rw [← h6]; exact g.wn, by rw [← h7]; exact g.pn⟩) hl.symm, same_nth hl he⟩
/-- How many entries GetUpdate answers. -/
def uM (B : List Int) : Nat := if uEnd B = 0 then uK B else 0
theorem uM_le (B : List Int) : uM B ≤ 8 := by
  unfold uM uK
  split
  · split
    · omega
    · omega
  · omega
theorem ug_holds {W : World} {B : List Int} {te t base : Nat} {a : Option Addr} {n c : Nat} {xs : List E3} (hb : Bytes B) (hs : EOs W te t base (.slice a n c) xs) (h : if uEnd B = 0 then UGood B (uK B) xs else xs = []) :
    n = uM B ∧ HoldsE W W.heap.size a n (nthE xs) ∧ (∀ z ∈ xs, z.2.1.length = z.1.wn * 16 ∧ z.2.2.length = z.1.pn * 16) ∧ ∀ j z, xs[j]? = some z → uE B j z := by
  have hw : ∀ z ∈ xs, z.2.1.length = z.1.wn * 16 ∧ z.2.2.length = z.1.pn * 16 := fun z hz => ⟨(hs.e z hz).wl, (hs.e z hz).pl⟩
  unfold uM
  by_cases h0 : uEnd B = 0
  · rw [if_pos h0] at h ⊢
    obtain ⟨g1, g2⟩ := h.holds hb hs
    exact ⟨g2, g1, hw, h.2⟩
  · rw [if_neg h0] at h ⊢
    subst h
    have hn : n = 0 := ownsRow_len hs.v
    subst hn
    exact ⟨rfl, ⟨fun i hi => absurd hi (by omega), fun i hi => absurd hi (by omega)⟩, hw, fun j z hz => by simp at hz⟩
theorem uE_same {B : List Int} {j : Nat} {x y : E3} (h : uE B j x) (g : uE B j y) (hx : x.2.1.length = x.1.wn * 16 ∧ x.2.2.length = x.1.pn * 16) (hy : y.2.1.length = y.1.wn * 16 ∧ y.2.2.length = y.1.pn * 16) : SameE x y := by
  obtain ⟨⟨h1, h2, h3, h4, h5⟩, h6, h7⟩ := h
  obtain ⟨⟨g1, g2, g3, g4, g5⟩, g6, g7⟩ := g
  have e6 : x.2.1 = y.2.1 := h6.trans g6.symm
  have e7 : x.2.2 = y.2.2 := h7.trans g7.symm
  exact ⟨h1.trans g1.symm, h2.trans g2.symm, h3.trans g3.symm, h4.trans g4.symm, h5.trans g5.symm, by have := hx.1; have := hy.1; rw [e6] at *; omega, by have := hx.2; have := hy.2; rw [e7] at *; omega, e6, e7⟩
theorem ug_same {B : List Int} {n : Nat} {xs ys : List E3} (hx : xs.length = n) (hy : ys.length = n) (h : ∀ j z, xs[j]? = some z → uE B j z) (g : ∀ j z, ys[j]? = some z → uE B j z) (hl : ∀ z ∈ xs, z.2.1.length = z.1.wn * 16 ∧ z.2.2.length = z.1.pn * 16) (gl : ∀ z ∈ ys, z.2.1.length = z.1.wn * 16 ∧ z.2.2.length = z.1.pn * 16) :
    ∀ i, i < n → SameE (nthE xs i) (nthE ys i) := fun i hi => by
  have e : xs[i]? = some xs[i] := List.getElem?_eq_getElem (by omega)
  have e' : ys[i]? = some ys[i] := List.getElem?_eq_getElem (by omega)
  rw [nthE_at e, nthE_at e']
  exact uE_same (h i _ e) (g i _ e') (hl _ (List.getElem_mem _)) (gl _ (List.getElem_mem _))
/-- An update that was laid, taken again. -/
theorem laid_same {w : World} {M : Nat} {a : Option Addr} {u : Bool} {f : Nat → E3} {n : Nat} {xs : List E3} (h : HoldsE w M a n f) (h0 : updE f n = 0) (hg : ∀ j z, xs[j]? = some z → uE (updX u f n) j z) (gl : ∀ z ∈ xs, z.2.1.length = z.1.wn * 16 ∧ z.2.2.length = z.1.pn * 16) :
    uEnd (updX u f n) = 0 ∧ (decide (uEnd (updX u f n) = 0) && (uFull (updX u f n) == 1)) = u ∧ uM (updX u f n) = n ∧ (xs.length = n → ∀ i, i < n → SameE (nthE xs i) (f i)) := by
  obtain ⟨h8, hok⟩ := updE_zero h0
  have hX : updX u f n = updB u f n := by unfold updX; rw [if_pos h0]
  rw [hX] at hg ⊢
  have e0 := upd_end (u := u) h hok h8
  obtain ⟨e1, e2, e3, e4⟩ := upd_head (u := u) (f := f) h8
  refine ⟨e0, ?_, ?_, fun hl i hi => ?_⟩
  · rw [e0, e1]
    unfold fullN
    cases u <;> simp
  · unfold uM
    rw [if_pos e0, e3]
  · have e : xs[i]? = some xs[i] := List.getElem?_eq_getElem (by omega)
    rw [nthE_at e]
    have t := (upd_taken (u := u) h hok h8).2 i hi
    obtain ⟨⟨t1, t2, t3, t4, t5⟩, t6, t7⟩ := t
    refine uE_same (hg i _ e) ⟨⟨t1.symm, t2.symm, t3.symm, t4.symm, t5.symm⟩, t6.symm, t7.symm⟩ (gl _ (List.getElem_mem _)) ?_
    have q := h.e i hi
    exact ⟨q.hw.lenB.1, q.hp.lenB.1⟩
end Go.Proofs.Ytioeaknhcfkfcaa
