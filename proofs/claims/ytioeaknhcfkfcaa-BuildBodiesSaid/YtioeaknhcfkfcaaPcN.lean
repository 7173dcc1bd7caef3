/-
  A piece that came in.
-/
import Derived.Test.YtioeaknhcfkfcaaPcM
import Derived.SizedLaws
import Derived.Lib.SmallJoins
namespace Go.Proofs.Ytioeaknhcfkfcaa
open Go.ChangeShapes Go.WideShapes Go.ChangeAt Go.RowKit Go.Deep Go.Joins

theorem row_bytes2 {H : Type} {enc : TypeId × Value → H} {W : World} {n : Nat} {v : Value} {y : DataW H × List MemPlace}
    (h : DataW.trod enc Try.prog W 0 (fun _ => true) true n 39 [v] = some y) : ∃ a len cap l, v = .slice a len cap ∧ HoldsB W W.heap.size (.slice a len cap) l ∧
      (∀ {ts : List TypeId} {ds : List (DataW H)} {j : Nat}, (DataW.weightsEach Try.prog ts ds).all (· ≤ reachBytes) = true → ts[j]? = some 39 → ds[j]? = some y.1 → l.length ≤ 140737488351232) := by
  have hb5 : Try.prog.bytesOf 5 = 1 := by kernel_rfl
  obtain ⟨d, pl⟩ := y
  have hsh : ∃ a n c, v = .slice a n c := by
    rcases DataW.trod_slice Try.underlying39 h with ⟨h1, _⟩ | ⟨a, len, cap, _, _, _, _, h1, _⟩
    · simp at h1; exact ⟨_, _, _, h1⟩
    · simp at h1; exact ⟨_, _, _, h1⟩
  obtain ⟨a, len, cap, rfl⟩ := hsh
  have k : DataW.Trod enc Try.prog W 0 (fun _ => true) true 39 (.slice a len cap) d pl := ⟨n, h⟩
  obtain ⟨l, hl⟩ := row_bytes k
  refine ⟨a, len, cap, l, rfl, hl, fun {ts ds j} hs ht hd => ?_⟩
  have hll : len = l.length := by
    obtain ⟨a1, n1, c1, e1, e2⟩ := hl.slice
    simp only [Value.slice.injEq] at e1
    omega
  obtain ⟨fuel, hf⟩ := k
  rcases open_slice1 Try.underlying39 (by kernel_rfl) hf with ⟨hcs, _⟩ | ⟨x, l', c, m, n', V, D, Pl, hcs, hb, hl', hm, hmm, hx, hi⟩
  · simp [Value.cells] at hcs
    omega
  · simp [Value.cells] at hcs
    obtain ⟨rfl, rfl, rfl⟩ := hcs
    simp only [Prod.mk.injEq] at hx
    rw [hx.1] at hd
    have := sized_slice hs ht hd Try.underlying39
    rw [hb5] at this
    simp only [List.length_map, List.length_range, reachBytes] at this
    omega
def I64 (n : Int) : Prop := -9223372036854775808 ≤ n ∧ n ≤ 9223372036854775807
theorem i64_of {n : Int} (h : (Lit.int .i64 n).wf = true) : I64 n := by
  have h1 : IntKind.i64.min = -9223372036854775808 := rfl
  have h2 : IntKind.i64.max = 9223372036854775807 := rfl
  simp [Lit.wf, h1, h2] at h
  exact h
theorem u32_of {n : Int} (h : (Lit.int .u32 n).wf = true) : 0 ≤ n ∧ n ≤ 4294967295 := by
  have h1 : IntKind.u32.min = 0 := rfl
  have h2 : IntKind.u32.max = 4294967295 := rfl
  simp [Lit.wf, h1, h2] at h
  exact h
theorem weights_part {H : Type} {d : DataW H} {t : TypeId} {fs : Array Field} {parts : List (DataW H)} (hu : Try.prog.underlying t = some (.struct fs)) (hd : d = .agg parts) {ts : List TypeId} {ds : List (DataW H)} {j : Nat} (hs : (DataW.weightsEach Try.prog ts ds).all (· ≤ reachBytes) = true) (ht : ts[j]? = some t) (hj : ds[j]? = some d) :
    (DataW.weightsEach Try.prog (fs.toList.map (·.type)) parts).all (· ≤ reachBytes) = true := by
  refine List.all_eq_true.2 fun n hn => List.all_eq_true.1 hs _ (DataW.weights_mem_each ht hj n ?_)
  rw [hd]
  simp only [DataW.weights, hu]
  exact hn
set_option maxRecDepth 100000 in
theorem piece_open {H : Type} {enc : TypeId × Value → H} {W : World} {b0 : Nat} {v : Value} {d : DataW H} {p : List MemPlace} (hv : Value.okWide Try.prog W .any b0 109 v)
    (k : DataW.Trod enc Try.prog W 0 (fun _ => true) true 109 v d p) : ∃ (x : PV) (l : List Int), v = x.v ∧ HoldsB W W.heap.size (.slice x.a x.n x.c) l ∧ (0 ≤ x.id ∧ x.id ≤ 4294967295) ∧ (I64 x.at_ ∧ I64 x.many) ∧
      (∀ {ts : List TypeId} {ds : List (DataW H)} {j : Nat}, (DataW.weightsEach Try.prog ts ds).all (· ≤ reachBytes) = true → ts[j]? = some 109 → ds[j]? = some d → l.length ≤ 140737488351232) := by
  obtain ⟨v0, v1, v2, v3, y0, y1, y2, y3, n, rfl, hd, -, h0, h1, h2, h3⟩ := open_agg4 Try.underlying109 (by kernel_rfl) (by kernel_rfl) hv k
  obtain ⟨id, e0, -, w0⟩ := DataW.trod_int Try.underlying24 h0
  obtain ⟨a_, e1, -, w1⟩ := DataW.trod_int Try.underlying3 h1
  obtain ⟨m, e2, -, w2⟩ := DataW.trod_int Try.underlying3 h2
  simp only [List.cons.injEq, and_true] at e0 e1 e2
  subst e0 e1 e2
  obtain ⟨a, len, cap, l, rfl, hl, hr⟩ := row_bytes2 h3
  refine ⟨⟨id, a_, m, a, len, cap⟩, l, rfl, hl, u32_of w0, ⟨i64_of w1, i64_of w2⟩, fun {ts ds j} hs ht hj => ?_⟩
  exact hr (j := 3) (weights_part Try.underlying109 hd hs ht hj) rfl rfl
end Go.Proofs.Ytioeaknhcfkfcaa
