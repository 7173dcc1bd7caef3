/-
  An update that came in.
-/
import Derived.Test.YtgabjmmmiogfjaaDoorFuS
import Derived.Test.YtgabjmmmiogfjaaDoorFuP
import Derived.OpenShut
import Derived.ProofKit
import Derived.Deep.Slices
import Derived.Deep.Fields
import Derived.Deep.Strs
import Derived.Lib.SmallJoins
namespace Go.Proofs.YtgabjmmmiogfjaaDoor
open Go.ChangeShapes Go.WideShapes Go.ChangeAt Go.RowKit Go.Deep Go.Joins

theorem add_off (b off n : Nat) : (Addr.add { block := b, off := off, spot := none } n) = ⟨b, off + n, none⟩ := by
  unfold Addr.add
  split
  · rename_i h; subst h; rfl
  · rfl
theorem c40u : Tryd.prog.cellsOf 40 = 16 := by kernel_rfl
theorem c5u : Tryd.prog.cellsOf 5 = 1 := by kernel_rfl
section
variable {H : Type} {enc : TypeId × Value → H} {W : World}
theorem sum_of {n : Nat} {cs : List Value} {x : DataW H × List MemPlace} (h : DataW.trod enc Tryd.prog W 0 (fun _ => true) true n 40 cs = some x) : ∃ p, cs = bv p ∧ p.length = 16 ∧ Bytes p := by
  obtain ⟨ys, k, _, _, hl, hy, hg⟩ := DataW.trod_array Tryd.underlying40 h
  rw [c40u] at hl
  rw [c5u] at hg
  have each : ∀ j, j < 16 → ∃ z : Int, cs[j]? = some (.int .u8 z) ∧ 0 ≤ z ∧ z ≤ 255 := fun j hj => by
    have h1 := hg j (by omega)
    rw [List.getElem?_eq_getElem (show j < ys.length by omega), Nat.mul_one] at h1
    obtain ⟨z, e0, _, wz⟩ := DataW.trod_int Tryd.underlying5 h1
    have h2 : IntKind.u8.min = 0 := rfl
    have h3 : IntKind.u8.max = 255 := rfl
    simp [Lit.wf, h2, h3] at wz
    refine ⟨z, ?_, wz⟩
    have h4 : ((cs.drop j).take 1)[0]? = some (.int .u8 z) := by rw [e0]; rfl
    rw [List.getElem?_take, if_pos (by omega), List.getElem?_drop] at h4
    simpa using h4
  obtain ⟨f, hf⟩ : ∃ f : Nat → Int, ∀ j, j < 16 → cs[j]? = some (.int .u8 (f j)) ∧ 0 ≤ f j ∧ f j ≤ 255 := by
    refine ⟨fun j => if h : j < 16 then Classical.choose (each j h) else 0, fun j hj => ?_⟩
    simp only [hj, dif_pos]
    exact Classical.choose_spec (each j hj)
  refine ⟨(List.range 16).map f, ?_, by simp, fun y hy => ?_⟩
  · apply List.ext_getElem?
    intro j
    by_cases hj : j < 16
    · rw [(hf j hj).1, List.getElem?_map, List.getElem?_map, List.getElem?_range hj]; rfl
    · rw [List.getElem?_eq_none (by omega), List.getElem?_eq_none (by simp; omega)]
  · obtain ⟨j, hj, rfl⟩ := List.mem_map.1 hy
    exact (hf j (List.mem_range.1 hj)).2

theorem sums_of {n : Nat} {v : Value} {x : DataW H × List MemPlace} (h : DataW.trod enc Tryd.prog W 0 (fun _ => true) true n 101 [v] = some x) : ∃ k S, HoldsS W v k S := by
  rcases open_slice Tryd.underlying101 h with ⟨hcs, _⟩ | ⟨a, len, cap, m, n', D, Pl, hcs, hb, hl, hm, hmm, hx, hi⟩
  · simp at hcs
    subst hcs
    exact ⟨0, [], none, 0, rfl, rfl, by unfold maxLen; omega, (fun _ hx => by cases hx), fun h => by omega⟩
  · simp at hcs
    subst hcs
    have hmc : m = cap := by simpa using hmm
    rw [c40u] at hi
    have each : ∀ i, i < len → ∃ p : List Int, W.cells? 0 (a.add (i * 16)) 16 = some (bv p) ∧ p.length = 16 ∧ Bytes p := fun i him => by
      obtain ⟨cs, hc, ht⟩ := hi i (by omega)
      obtain ⟨p, rfl, hp⟩ := sum_of ht
      exact ⟨p, hc, hp⟩
    have hs : 0 < len → a.spot = none := fun h0 => by
      obtain ⟨p, hc, hp, _⟩ := each 0 h0
      obtain ⟨_, _, hat⟩ := World.cells?_some hc
      have h1 := hat 0 (by omega)
      rw [List.getElem?_map, List.getElem?_eq_getElem (show 0 < p.length by omega)] at h1
      simpa [Addr.add] using World.cell?_spot h1
    have hcell : ∀ j, j < len * 16 → ∃ z : Int, W.cell? (a.add j) = some (.int .u8 z) ∧ 0 ≤ z ∧ z ≤ 255 := fun j hj => by
      obtain ⟨p, hc, hp, hB⟩ := each (j / 16) (by omega)
      obtain ⟨_, _, hat⟩ := World.cells?_some hc
      have h1 := hat (j % 16) (by omega)
      have h2 : (a.add (j / 16 * 16)).add (j % 16) = a.add j := by
        have h3 : j / 16 * 16 + j % 16 = j := by omega
        obtain ⟨b, off, sp⟩ := a
        have h4 : sp = none := hs (by omega)
        subst h4
        rw [add_off, add_off, add_off, Nat.add_assoc, h3]
      rw [h2, List.getElem?_map, List.getElem?_eq_getElem (show j % 16 < p.length by omega)] at h1
      exact ⟨_, h1, hB _ (List.getElem_mem _)⟩
    obtain ⟨f, hf⟩ : ∃ f : Nat → Int, ∀ j, j < len * 16 → W.cell? (a.add j) = some (.int .u8 (f j)) ∧ 0 ≤ f j ∧ f j ≤ 255 := by
      refine ⟨fun j => if h : j < len * 16 then Classical.choose (hcell j h) else 0, fun j hj => ?_⟩
      simp only [hj, dif_pos]
      exact Classical.choose_spec (hcell j hj)
    refine ⟨len, (List.range (len * 16)).map f, some a, cap, rfl, by simp, by omega, fun y hy => ?_, fun h0 => ?_⟩
    · obtain ⟨j, hj, rfl⟩ := List.mem_map.1 hy
      exact (hf j (List.mem_range.1 hj)).2
    · obtain ⟨b, off, spot⟩ := a
      have h00 := (hf 0 (by omega)).1
      have hspot : spot = none := by simpa [Addr.add] using World.cell?_spot h00
      subst hspot
      refine ⟨b, off, rfl, by simpa [Addr.add] using World.block_lt_of_cell? W _ h00, fun j hj => ?_⟩
      have := (hf j hj).1
      rw [add_off] at this
      rw [this, List.getD_eq_getElem?_getD, List.getElem?_map, List.getElem?_range hj]; rfl
end

theorem u32_of {n : Int} (h : (Lit.int .u32 n).wf = true) : 0 ≤ n ∧ n ≤ 4294967295 := by
  have h1 : IntKind.u32.min = 0 := rfl
  have h2 : IntKind.u32.max = 4294967295 := rfl
  simp [Lit.wf, h1, h2] at h
  exact h
theorem cut {α : Type} (cs : List α) (k m : Nat) : (cs.drop k).take m ++ cs.drop (k + m) = cs.drop k := by rw [← List.drop_drop, List.take_append_drop]
theorem take1 {cs : List Value} {k : Nat} {v : Value} (h : (cs.drop k).take 1 = [v]) : cs[k]? = some v := by
  have h4 := congrArg (fun l : List Value => l[0]?) h
  simpa [List.getElem?_take, List.getElem?_drop] using h4
theorem c105u : Tryd.prog.cellsOf 105 = 22 := by kernel_rfl
theorem c103u : Tryd.prog.cellsOf 103 = 18 := by kernel_rfl
theorem c100u : Tryd.prog.cellsOf 100 = 3 := by kernel_rfl
theorem c101u : Tryd.prog.cellsOf 101 = 1 := by kernel_rfl
theorem c98u : Tryd.prog.cellsOf 98 = 1 := by kernel_rfl
theorem c3u : Tryd.prog.cellsOf 3 = 1 := by kernel_rfl
theorem c52u : Tryd.prog.cellsOf 52 = 2 := by kernel_rfl
/-- An entry that came in. -/
structure ELo (W : World) (z : E3) : Prop where
  l : z.1.lf.length = 16
  b : Bytes z.1.lf
  e : 0 ≤ z.1.e ∧ z.1.e ≤ 4294967295
  s : 0 ≤ z.1.s ∧ z.1.s ≤ 4294967295
  hw : HoldsS W (.slice z.1.wa z.1.wn z.1.wc) z.1.wn z.2.1
  hp : HoldsS W (.slice z.1.pa z.1.pn z.1.pc) z.1.pn z.2.2
structure HoldsO (W : World) (a : Option Addr) (n : Nat) (f : Nat → E3) : Prop where
  m : n ≤ maxLen
  e : ∀ i, i < n → ELo W (f i)
  c : ∀ i, i < n → ∃ b off, a = some ⟨b, off, none⟩ ∧ b < W.heap.size ∧ W.rangeAt b (off + i * 22) (ec (f i).1)
theorem HoldsS.max {W : World} {v : Value} {n : Nat} {S : List Int} (h : HoldsS W v n S) : n ≤ maxLen := by
  obtain ⟨a, cap, h1, h2, h3, _⟩ := h
  exact h3
theorem HoldsO.light {W : World} {a : Option Addr} {n : Nat} {f : Nat → E3} (h : HoldsO W a n f) : HoldsL W a n (fun i => (f i).1) :=
  ⟨fun i hi => (h.e i hi).l, fun i hi => ⟨(h.e i hi).hw.max, (h.e i hi).hp.max⟩, h.c⟩
theorem HoldsS.under {W : World} {a : Option Addr} {n c : Nat} {S : List Int} (h : HoldsS W (.slice a n c) n S) : 0 < n → ∀ b, (Value.slice a n c).ownBlock = some b → b < W.heap.size := by
  obtain ⟨a', cap, h1, h2, h3, h4, h5⟩ := h
  intro h0 b hb
  obtain ⟨b', off, ha, hlt, _⟩ := h5 h0
  simp only [Value.slice.injEq] at h1
  rw [h1.1, ha] at hb
  have : b' = b := by simpa [Value.ownBlock] using hb
  omega
theorem HoldsO.weak {W : World} {a : Option Addr} {n : Nat} {f : Nat → E3} (h : HoldsO W a n f) (hl : ∀ i, i < n → (f i).1.wn ≤ 20 ∧ (f i).1.pn ≤ 20) : HoldsW W W.heap.size a n f :=
  ⟨fun i hi => ⟨(h.e i hi).l, (h.e i hi).b, (h.e i hi).e, (h.e i hi).s, (hl i hi).1, (hl i hi).2, (h.e i hi).hw, (h.e i hi).hp, (h.e i hi).hw.under, (h.e i hi).hp.under⟩, fun i hi => by
    obtain ⟨b, off, e1, e2, e3⟩ := h.c i hi
    exact ⟨b, off, e1, e2, e2, e3⟩⟩
section
variable {H : Type} {enc : TypeId × Value → H} {W : World}
theorem one_of {cs : List Value} {k : Nat} (h : k < cs.length) : ∃ v, (cs.drop k).take 1 = [v] := by
  have h1 : ((cs.drop k).take 1).length = 1 := by simp; omega
  match (cs.drop k).take 1, h1 with
  | [v], _ => exact ⟨v, rfl⟩
theorem entry_trod {fuel : Nat} {cs : List Value} {x : DataW H × List MemPlace} (hf : DataW.trod enc Tryd.prog W 0 (fun _ => true) true fuel 105 cs = some x) : ∃ z : E3, cs = ec z.1 ∧ ELo W z := by
  obtain ⟨y0, y1, y2, n, _, hl, t0, t1, t2⟩ := trod_struct3 Tryd.underlying105 hf
  rw [c105u] at hl
  simp only [c3u, c100u, c103u] at t0 t1 t2
  obtain ⟨d, e0, _, wd⟩ := DataW.trod_int Tryd.underlying3 t0
  obtain ⟨k0, k1, k2, n2, _, hl2, q0, q1, q2⟩ := trod_struct3 Tryd.underlying100 t1
  simp only [c98u, c3u] at q0 q1 q2
  obtain ⟨e, e1, _, we⟩ := DataW.trod_int Tryd.underlying98 q0
  obtain ⟨s, e2, _, ws⟩ := DataW.trod_int Tryd.underlying98 q1
  obtain ⟨m, e3, _, wm⟩ := DataW.trod_int Tryd.underlying3 q2
  obtain ⟨r0, r1, r2, n3, _, hl3, s0, s1, s2⟩ := trod_struct3 Tryd.underlying103 t2
  simp only [c40u, c101u] at s0 s1 s2
  obtain ⟨lf, e4, hlf, hbf⟩ := sum_of s0
  rw [c100u] at hl2
  rw [c103u] at hl3
  obtain ⟨vw, e5⟩ := one_of (cs := (cs.drop 4).take 18) (k := 16) (by omega)
  obtain ⟨vp, e6⟩ := one_of (cs := (cs.drop 4).take 18) (k := 17) (by omega)
  rw [show (((cs.drop 4).take 18).drop 16).take 1 = [vw] from e5] at s1
  rw [show (((cs.drop 4).take 18).drop 17).take 1 = [vp] from e6] at s2
  obtain ⟨nw, Sw, hSw⟩ := sums_of s1
  obtain ⟨np, Sp, hSp⟩ := sums_of s2
  obtain ⟨wa, wc, rfl, hrw⟩ := hSw
  obtain ⟨pa, pc, rfl, hrp⟩ := hSp
  refine ⟨(⟨d, e, s, m, lf, wa, nw, wc, pa, np, pc⟩, Sw, Sp), ?_, hlf, hbf, u32_of we, u32_of ws, ⟨wa, wc, rfl, hrw⟩, ⟨pa, pc, rfl, hrp⟩⟩
  have hk : (cs.drop 1).take 3 = [.int .u32 e, .int .u32 s, .int .i64 m] := by
    match (cs.drop 1).take 3, hl2, e1, e2, e3 with
    | [v0, v1, v2], _, e1, e2, e3 =>
      have g0 := take1 e1
      have g1 := take1 e2
      have g2 := take1 e3
      simp at g0 g1 g2
      rw [g0, g1, g2]
  have hc : (cs.drop 4).take 18 = bv lf ++ [.slice wa nw wc, .slice pa np pc] := by
    have h0 := cut ((cs.drop 4).take 18) 0 16
    have h1 := cut ((cs.drop 4).take 18) 16 1
    have h2 : (((cs.drop 4).take 18).drop 17).take 1 = ((cs.drop 4).take 18).drop 17 := List.take_of_length_le (by rw [List.length_drop]; omega)
    rw [show (((cs.drop 4).take 18).drop 0).take 16 = bv lf from e4, List.drop_zero] at h0
    rw [e5] at h1
    rw [e6] at h2
    rw [← h0, ← h1, ← h2]
    rfl
  have h0 := cut cs 0 1
  have h1 := cut cs 1 3
  have h2 : (cs.drop 4).take 18 = cs.drop 4 := List.take_of_length_le (by simp; omega)
  rw [show (cs.drop 0).take 1 = [.int .i64 d] from e0] at h0
  rw [hk] at h1
  rw [hc] at h2
  rw [List.drop_zero] at h0
  rw [← h0, ← h1, ← h2]
  simp [ec]
theorem row_entries {a : Option Addr} {len cap n0 : Nat} {x : DataW H × List MemPlace} (hf : DataW.trod enc Tryd.prog W 0 (fun _ => true) true n0 50 [.slice a len cap] = some x) : ∃ f : Nat → E3, HoldsO W a len f := by
  rcases open_slice Tryd.underlying50 hf with ⟨hcs, _⟩ | ⟨x, l, c, m, n, D, Pl, hcs, hb, hl, hm, hmm, hx, hi⟩
  · simp at hcs
    obtain ⟨rfl, rfl, rfl⟩ := hcs
    exact ⟨fun _ => (x0, [], []), by unfold maxLen; omega, fun i hi => by omega, fun i hi => by omega⟩
  · simp at hcs
    obtain ⟨rfl, rfl, rfl⟩ := hcs
    have hmc : m = cap := by simpa using hmm
    subst hmc
    have each : ∀ i, i < m → ∃ z : E3, W.cells? 0 (x.add (i * 22)) 22 = some (ec z.1) ∧ ELo W z := fun i him => by
      obtain ⟨cs, hc, ht⟩ := hi i him
      rw [c105u] at hc
      obtain ⟨z, rfl, hz⟩ := entry_trod ht
      exact ⟨z, hc, hz⟩
    obtain ⟨f, hf'⟩ : ∃ f : Nat → E3, ∀ i, i < m → W.cells? 0 (x.add (i * 22)) 22 = some (ec (f i).1) ∧ ELo W (f i) := by
      refine ⟨fun i => if h : i < m then Classical.choose (each i h) else (x0, [], []), fun i hi => ?_⟩
      simp only [hi, dif_pos]
      exact Classical.choose_spec (each i hi)
    refine ⟨f, by omega, fun i hi => (hf' i (by omega)).2, fun i hi' => ?_⟩
    obtain ⟨b, off, spot⟩ := x
    obtain ⟨hc, hok⟩ := hf' i (by omega)
    obtain ⟨_, hcl, hat⟩ := World.cells?_some hc
    obtain ⟨hc0, hok0⟩ := hf' 0 (by omega)
    obtain ⟨_, hcl0, hat0⟩ := World.cells?_some hc0
    have h0 := hat0 0 (by omega)
    rw [ec_0] at h0
    have hspot : spot = none := by simpa [Addr.add] using World.cell?_spot h0
    subst hspot
    have hlt : b < W.heap.size := by
      have := World.block_lt_of_cell? W _ h0
      simpa [Addr.add] using this
    refine ⟨b, off, rfl, hlt, fun j v hv => ?_⟩
    have hj : j < 22 := by
      have h1 := (List.getElem?_eq_some_iff.1 hv).1
      rw [ec_len hok.l] at h1
      exact h1
    have h9 := hat j hj
    have e : (Addr.add { block := b, off := off, spot := none } (i * 22)).add j = ⟨b, off + (i * 22 + j), none⟩ := by rw [add_off, add_off, Nat.add_assoc]
    rw [e, ← Nat.add_assoc] at h9
    rw [h9]
    exact hv
set_option maxRecDepth 100000 in
theorem update_open {b0 : Nat} {v : Value} {d : DataW H} {p : List MemPlace} (hv : Value.okWide Tryd.prog W .any b0 52 v)
    (k : DataW.Trod enc Tryd.prog W 0 (fun _ => true) true 52 v d p) : ∃ (u : Bool) (a : Option Addr) (n c : Nat) (f : Nat → E3), v = .agg #[.bool u, .slice a n c] ∧ HoldsO W a n f := by
  obtain ⟨c0, c1, y0, y1, m, rfl, e, q, hy0, hy1⟩ := open_agg2 Tryd.underlying52 (by kernel_rfl) c52u hv k
  obtain ⟨u, e0, -⟩ := DataW.trod_bool Tryd.underlying4 hy0
  simp only [List.cons.injEq, and_true] at e0
  subst e0
  have hsh : ∃ a n c, c1 = .slice a n c := by
    rcases DataW.trod_slice Tryd.underlying50 hy1 with ⟨h1, _⟩ | ⟨a, len, cap, _, _, _, _, h1, _⟩
    · simp at h1; exact ⟨_, _, _, h1⟩
    · simp at h1; exact ⟨_, _, _, h1⟩
  obtain ⟨a, n, c, rfl⟩ := hsh
  obtain ⟨f, hf⟩ := row_entries hy1
  exact ⟨u, a, n, c, f, rfl, hf⟩
end
end Go.Proofs.YtgabjmmmiogfjaaDoor
