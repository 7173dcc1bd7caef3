/-
  A frame that came in.
-/
import Derived.Test.YtgabjmmmiogfjaaDoorFrH
import Derived.SizedLaws
import Derived.Lib.SmallJoins
namespace Go.Proofs.YtgabjmmmiogfjaaDoor
open Go.ChangeShapes Go.WideShapes Go.ChangeAt Go.RowKit Go.Deep Go.Joins

theorem row_bytes2 {H : Type} {enc : TypeId × Value → H} {W : World} {n : Nat} {v : Value} {y : DataW H × List MemPlace}
    (h : DataW.trod enc Tryd.prog W 0 (fun _ => true) true n 24 [v] = some y) : ∃ a len cap l, v = .slice a len cap ∧ HoldsB W W.heap.size (.slice a len cap) l ∧
      (∀ {ts : List TypeId} {ds : List (DataW H)} {j : Nat}, (DataW.weightsEach Tryd.prog ts ds).all (· ≤ reachBytes) = true → ts[j]? = some 24 → ds[j]? = some y.1 → l.length ≤ 140737488351232) := by
  have hb5 : Tryd.prog.bytesOf 5 = 1 := by kernel_rfl
  obtain ⟨d, pl⟩ := y
  have hsh : ∃ a n c, v = .slice a n c := by
    rcases DataW.trod_slice Tryd.underlying24 h with ⟨h1, _⟩ | ⟨a, len, cap, _, _, _, _, h1, _⟩
    · simp at h1; exact ⟨_, _, _, h1⟩
    · simp at h1; exact ⟨_, _, _, h1⟩
  obtain ⟨a, len, cap, rfl⟩ := hsh
  have k : DataW.Trod enc Tryd.prog W 0 (fun _ => true) true 24 (.slice a len cap) d pl := ⟨n, h⟩
  obtain ⟨l, hl⟩ := row_bytes k
  refine ⟨a, len, cap, l, rfl, hl, fun {ts ds j} hs ht hd => ?_⟩
  have hll : len = l.length := by
    obtain ⟨a1, n1, c1, e1, e2⟩ := hl.slice
    simp only [Value.slice.injEq] at e1
    omega
  obtain ⟨fuel, hf⟩ := k
  rcases open_slice1 Tryd.underlying24 (by kernel_rfl) hf with ⟨hcs, _⟩ | ⟨x, l', c, m, n', V, D, Pl, hcs, hb, hl', hm, hmm, hx, hi⟩
  · simp [Value.cells] at hcs
    omega
  · simp [Value.cells] at hcs
    obtain ⟨rfl, rfl, rfl⟩ := hcs
    simp only [Prod.mk.injEq] at hx
    rw [hx.1] at hd
    have := sized_slice hs ht hd Tryd.underlying24
    rw [hb5] at this
    simp only [List.length_map, List.length_range, reachBytes] at this
    omega
def I64 (n : Int) : Prop := -9223372036854775808 ≤ n ∧ n ≤ 9223372036854775807
theorem i64_of {n : Int} (h : (Lit.int .i64 n).wf = true) : I64 n := by
  have h1 : IntKind.i64.min = -9223372036854775808 := rfl
  have h2 : IntKind.i64.max = 9223372036854775807 := rfl
  simp [Lit.wf, h1, h2] at h
  exact h
theorem u64_of {n : Int} (h : (Lit.int .u64 n).wf = true) : 0 ≤ n ∧ n < 18446744073709551616 := by
  have h1 : IntKind.u64.min = 0 := rfl
  have h2 : IntKind.u64.max = 18446744073709551615 := rfl
  simp [Lit.wf, h1, h2] at h
  omega
theorem weights_part {H : Type} {d : DataW H} {t : TypeId} {fs : Array Field} {parts : List (DataW H)} (hu : Tryd.prog.underlying t = some (.struct fs)) (hd : d = .agg parts) {ts : List TypeId} {ds : List (DataW H)} {j : Nat} (hs : (DataW.weightsEach Tryd.prog ts ds).all (· ≤ reachBytes) = true) (ht : ts[j]? = some t) (hj : ds[j]? = some d) :
    (DataW.weightsEach Tryd.prog (fs.toList.map (·.type)) parts).all (· ≤ reachBytes) = true := by
  refine List.all_eq_true.2 fun n hn => List.all_eq_true.1 hs _ (DataW.weights_mem_each ht hj n ?_)
  rw [hd]
  simp only [DataW.weights, hu]
  exact hn
section
variable {P : Program} {H : Type} {enc : TypeId × Value → H} {w : World} {base : Nat} {spare : Nat → Bool} {held : Bool}
theorem array6 {α : Type} {cs : Array α} (h : cs.size = 6) : ∃ c0 c1 c2 c3 c4 c5, cs = #[c0, c1, c2, c3, c4, c5] := by
  obtain ⟨l⟩ := cs
  match l, h with
  | [c0, c1, c2, c3, c4, c5], _ => exact ⟨c0, c1, c2, c3, c4, c5, rfl⟩
theorem trod_struct6 {t : TypeId} {f0 f1 f2 f3 f4 f5 : Field} {fuel : Nat} {cs : List Value} {x : DataW H × List MemPlace} (ht : P.underlying t = some (.struct #[f0, f1, f2, f3, f4, f5])) (h : DataW.trod enc P w base (fun _ => true) held fuel t cs = some x) :
    ∃ y0 y1 y2 y3 y4 y5 n, x.1 = .agg [y0.1, y1.1, y2.1, y3.1, y4.1, y5.1] ∧ cs.length = P.cellsOf t ∧ DataW.trod enc P w base (fun _ => true) held n f0.type ((cs.drop f0.offset).take (P.cellsOf f0.type)) = some y0 ∧
      DataW.trod enc P w base (fun _ => true) held n f1.type ((cs.drop f1.offset).take (P.cellsOf f1.type)) = some y1 ∧ DataW.trod enc P w base (fun _ => true) held n f2.type ((cs.drop f2.offset).take (P.cellsOf f2.type)) = some y2 ∧
      DataW.trod enc P w base (fun _ => true) held n f3.type ((cs.drop f3.offset).take (P.cellsOf f3.type)) = some y3 ∧ DataW.trod enc P w base (fun _ => true) held n f4.type ((cs.drop f4.offset).take (P.cellsOf f4.type)) = some y4 ∧
      DataW.trod enc P w base (fun _ => true) held n f5.type ((cs.drop f5.offset).take (P.cellsOf f5.type)) = some y5 := by
  obtain ⟨xs, n, _, rfl, hl, hlen, hf⟩ := DataW.trod_struct ht h
  match xs, hlen with
  | [y0, y1, y2, y3, y4, y5], _ => exact ⟨y0, y1, y2, y3, y4, y5, n, by simp, hl, by simpa using hf 0 f0 rfl, by simpa using hf 1 f1 rfl, by simpa using hf 2 f2 rfl, by simpa using hf 3 f3 rfl, by simpa using hf 4 f4 rfl, by simpa using hf 5 f5 rfl⟩
theorem open_agg6 {r : Reach} {b0 : Nat} {t : TypeId} {f0 f1 f2 f3 f4 f5 : Field} {v : Value} {d : DataW H} {p : List MemPlace} (hs : P.underlying t = some (.struct #[f0, f1, f2, f3, f4, f5])) (hone : oneCellFields P #[f0, f1, f2, f3, f4, f5] = true) (hC : P.cellsOf t = 6)
    (hv : Value.okWide P w r b0 t v) (h : DataW.Trod enc P w base (fun _ => true) held t v d p) :
    ∃ (v0 v1 v2 v3 v4 v5 : Value) (y0 y1 y2 y3 y4 y5 : DataW H × List MemPlace) (n : Nat), v = .agg #[v0, v1, v2, v3, v4, v5] ∧ d = .agg [y0.1, y1.1, y2.1, y3.1, y4.1, y5.1] ∧
      DataW.trod enc P w base (fun _ => true) held n f0.type [v0] = some y0 ∧ DataW.trod enc P w base (fun _ => true) held n f1.type [v1] = some y1 ∧ DataW.trod enc P w base (fun _ => true) held n f2.type [v2] = some y2 ∧ DataW.trod enc P w base (fun _ => true) held n f3.type [v3] = some y3 ∧
      DataW.trod enc P w base (fun _ => true) held n f4.type [v4] = some y4 ∧ DataW.trod enc P w base (fun _ => true) held n f5.type [v5] = some y5 := by
  obtain ⟨cs, rfl, hsz⟩ := okWide_struct hs hv
  obtain ⟨c0, c1, c2, c3, c4, c5, rfl⟩ := array6 (hsz.trans hC)
  obtain ⟨fuel, hf⟩ := h
  obtain ⟨y0, y1, y2, y3, y4, y5, n, hx, _, h0, h1, h2, h3, h4, h5⟩ := trod_struct6 hs hf
  obtain ⟨o0, k0⟩ := hone_of hone 0 f0 rfl
  obtain ⟨o1, k1⟩ := hone_of hone 1 f1 rfl
  obtain ⟨o2, k2⟩ := hone_of hone 2 f2 rfl
  obtain ⟨o3, k3⟩ := hone_of hone 3 f3 rfl
  obtain ⟨o4, k4⟩ := hone_of hone 4 f4 rfl
  obtain ⟨o5, k5⟩ := hone_of hone 5 f5 rfl
  exact ⟨c0, c1, c2, c3, c4, c5, y0, y1, y2, y3, y4, y5, n, rfl, hx, by simpa [Value.cells, o0, k0] using h0, by simpa [Value.cells, o1, k1] using h1, by simpa [Value.cells, o2, k2] using h2, by simpa [Value.cells, o3, k3] using h3, by simpa [Value.cells, o4, k4] using h4, by simpa [Value.cells, o5, k5] using h5⟩
end
set_option maxRecDepth 100000 in
theorem frame_open {H : Type} {enc : TypeId × Value → H} {W : World} {b0 : Nat} {v : Value} {d : DataW H} {p : List MemPlace} (hv : Value.okWide Tryd.prog W .any b0 26 v)
    (k : DataW.Trod enc Tryd.prog W 0 (fun _ => true) true 26 v d p) : ∃ (x : FV) (l : List Int), v = x.v ∧ HoldsB W W.heap.size (.slice x.a x.n x.c) l ∧ BigP x ∧ (I64 x.fr ∧ I64 x.to ∧ I64 x.ki) ∧
      (∀ {ts : List TypeId} {ds : List (DataW H)} {j : Nat}, (DataW.weightsEach Tryd.prog ts ds).all (· ≤ reachBytes) = true → ts[j]? = some 26 → ds[j]? = some d → l.length ≤ 140737488351232) := by
  obtain ⟨v0, v1, v2, v3, v4, v5, y0, y1, y2, y3, y4, y5, n, rfl, hd, h0, h1, h2, h3, h4, h5⟩ := open_agg6 Tryd.underlying26 (by kernel_rfl) (by kernel_rfl) hv k
  obtain ⟨x0, e0, -, w0⟩ := DataW.trod_int Tryd.underlying3 h0
  obtain ⟨x1, e1, -, w1⟩ := DataW.trod_int Tryd.underlying3 h1
  obtain ⟨x2, e2, -, w2⟩ := DataW.trod_int Tryd.underlying23 h2
  obtain ⟨x3, e3, -, w3⟩ := DataW.trod_int Tryd.underlying23 h3
  obtain ⟨x4, e4, -, w4⟩ := DataW.trod_int Tryd.underlying3 h4
  simp only [List.cons.injEq, and_true] at e0 e1 e2 e3 e4
  subst e0 e1 e2 e3 e4
  obtain ⟨a, len, cap, l, rfl, hl, hr⟩ := row_bytes2 h5
  refine ⟨⟨x0, x1, x2, x3, x4, a, len, cap⟩, l, rfl, hl, ⟨u64_of w2, u64_of w3⟩, ⟨i64_of w0, i64_of w1, i64_of w4⟩, fun {ts ds j} hs ht hj => ?_⟩
  exact hr (j := 5) (weights_part Tryd.underlying26 hd hs ht hj) rfl rfl
theorem frameSeals_walk (key : List Int) (p : FV) (tp : List Int) (n : Int) (w : World) (l0 : key.length = 32) (b0 : Bytes key) (h : HoldsB w w.heap.size (.slice p.a p.n p.c) tp) (hid : BigP p) (_ : I64 p.fr ∧ I64 p.to ∧ I64 p.ki) (hl : tp.length ≤ 140737488351232) (_ : (Lit.int .i64 n).wf = true) (hk : KonIs w) :
    Calls Tryd.prog 3 #[.agg (kv .u8 key).toArray, p.v, .int .i64 n] w fun r w' => r = .returned (.bool true) ∧ Below w.heap.size w w' := seals_core key p tp n w hk ⟨l0, b0⟩ h hid hl
end Go.Proofs.YtgabjmmmiogfjaaDoor
