/-
  New floors, nil floors, and the row of steps.
-/
import Derived.Test.YtoembbdjpelogaaFloR
import Derived.ProofKit
import Derived.Deep.Slices
import Derived.Deep.Fields
import Derived.Deep.Strs
namespace Go.Proofs.Ytoembbdjpelogaa
open Go.ChangeShapes Go.WideShapes Go.ChangeAt Go.RowKit Go.Deep Go.Maps

set_option maxRecDepth 100000 in
theorem newF_any (w : World) : Calls Try.prog 28 #[] w fun r w' => r = .returned (.pointer (some ⟨w.heap.size + 1, 0, none⟩)) ∧ (w.alloc (Obj.map #[] 0)).alloc (floObj w.heap.size) = w' := by
  have hmm := @run_makeMap Try.prog
  go_enter Try.func28, Try.ntmps28
  go_wp2_with fail
  go_ret
  exact ⟨rfl, rfl⟩
theorem MapIs.made (w : World) : MapIs (w.alloc (Obj.map #[] 0)) w.heap.size 0 (fun _ => none) :=
  ⟨.map [], World.ownsMap_made _ _ _ _, isMap_empty, fun d _ => ⟨rfl, rfl⟩⟩

set_option maxRecDepth 100000 in
theorem raise_nil (d : Int) (x : K3) (w : World) : Calls Try.prog 29 #[.pointer none, .int .i64 d, agg3 x] w fun r w' => r = .returned (.tuple #[.bool false, .int .i64 2]) ∧ Below w.heap.size w w' := by
  go_enter Try.func29, Try.ntmps29
  go_wp2_with fail
  go_ret2
  exact ⟨rfl, more (Below.refl _ _) _⟩
set_option maxRecDepth 100000 in
theorem get_nil (d : Int) (w : World) : Calls Try.prog 31 #[.pointer none, .int .i64 d] w fun r w' => r = .returned (.tuple #[agg3 (0, 0, 0), .bool false]) ∧ Below w.heap.size w w' := by
  go_enter Try.func31, Try.ntmps31
  go_wp2_with fail
  refine bodyPost_ret (v := .tuple #[agg3 (0, 0, 0), .bool false]) (by simp [results, Try.results31, go_sem]) rfl ⟨rfl, ?_⟩
  repeat (first | with_reducible exact more (Below.refl _ _) _ | with_reducible refine Below.setCell ?_ (by simp) _)
set_option maxRecDepth 100000 in
theorem may_nil (d : Int) (x : K3) (w : World) : Calls Try.prog 33 #[.pointer none, .int .i64 d, agg3 x] w fun r w' => r = .returned (.bool true) ∧ Below w.heap.size w w' := by
  go_enter Try.func33, Try.ntmps33
  go_wp2_with fail
  refine (get_nil _ _).mono ?_
  rintro r w1 ⟨rfl, hb⟩
  obtain ⟨E1, S1, b1⟩ := after_one hb
  clear hb
  go_wp2_with fail
  go_ret
  exact ⟨rfl, more E1 _⟩
set_option maxRecDepth 100000 in
theorem dests_nil (w : World) : Calls Try.prog 35 #[.pointer none] w fun r w' => r = .returned (.slice none 0 0) ∧ Below w.heap.size w w' := by
  go_enter Try.func35, Try.ntmps35
  go_wp2_with fail
  go_loopw [3, 4, 5, 6, 7] (fun l _ _ _ c wr => ∃ i : Nat, i ≤ 8 ∧ c = .int .i64 i ∧ l = .slice none 0 0 ∧ Below w.heap.size w wr) (fun _ _ _ _ c _ => 8 - (intOf c).toNat)
  case atStart => exact ⟨0, by omega, rfl, rfl, Below.refl _ _⟩
  case round =>
    obtain ⟨i, hi, rfl, rfl, E0⟩ := hrel
    by_cases hlt : i < 8
    · go_wp2_with fail
      refine (get_nil _ _).mono ?_
      rintro r w1 ⟨rfl, hb⟩
      have E1 := thru E0 hb
      clear hb
      go_wp2_with fail
      exact ⟨⟨i + 1, by omega, by go_num, rfl, more E1 _⟩, by simp [intOf]; omega⟩
    · obtain rfl : i = 8 := by omega
      go_wp2_with fail
      go_ret
      exact ⟨rfl, E0⟩

theorem c56 : Try.prog.cellsOf 56 = 4 := by kernel_rfl
theorem c24 : Try.prog.cellsOf 24 = 3 := by kernel_rfl
theorem c22 : Try.prog.cellsOf 22 = 1 := by kernel_rfl
theorem c3 : Try.prog.cellsOf 3 = 1 := by kernel_rfl

def IsSteps (w : World) (a : Option Addr) (len : Nat) (f : Nat → Int × K3) : Prop :=
  len ≤ maxLen ∧ (0 < len → ∃ b off, a = some ⟨b, off, none⟩ ∧ b < w.heap.size ∧ ∀ i, i < len → w.cell? ⟨b, off + i * 4, none⟩ = some (.int .i64 (f i).1) ∧ w.cell? ⟨b, off + i * 4 + 1, none⟩ = some (.int .u32 (f i).2.1) ∧
    w.cell? ⟨b, off + i * 4 + 2, none⟩ = some (.int .u32 (f i).2.2.1) ∧ w.cell? ⟨b, off + i * 4 + 3, none⟩ = some (.int .i64 (f i).2.2.2) ∧ (dkey (f i).1).wf = true)

theorem row_steps {H : Type} {enc : TypeId × Value → H} {W : World} {a : Option Addr} {len cap : Nat} {d : DataW H} {p : List MemPlace}
    (k : DataW.Trod enc Try.prog W 0 (fun _ => true) true 48 (.slice a len cap) d p) : ∃ f, IsSteps W a len f := by
  obtain ⟨fuel, hf⟩ := k
  rcases open_slice Try.underlying48 hf with ⟨hcs, _⟩ | ⟨x, l, c, m, n, D, Pl, hcs, hb, hl, hm, hmm, hx, hi⟩
  · simp [Value.cells] at hcs
    obtain ⟨rfl, rfl, rfl⟩ := hcs
    exact ⟨fun _ => (0, 0, 0, 0), by unfold maxLen; omega, fun h => by omega⟩
  · simp [Value.cells] at hcs
    obtain ⟨rfl, rfl, rfl⟩ := hcs
    have hmc : m = cap := by simpa using hmm
    subst hmc
    have each : ∀ i, i < m → ∃ z : Int × K3, W.cell? (x.add (i * 4)) = some (.int .i64 z.1) ∧ W.cell? (x.add (i * 4 + 1)) = some (.int .u32 z.2.1) ∧ W.cell? (x.add (i * 4 + 2)) = some (.int .u32 z.2.2.1) ∧ W.cell? (x.add (i * 4 + 3)) = some (.int .i64 z.2.2.2) ∧ (dkey z.1).wf = true := fun i him => by
      obtain ⟨cs, hc, ht⟩ := hi i him
      rw [c56] at hc
      obtain ⟨_, hcl, hat⟩ := World.cells?_some hc
      match cs, hcl with
      | [v0, v1, v2, v3], _ =>
        obtain ⟨y0, y1, n2, _, _, t0, t1⟩ := trod_struct2 Try.underlying56 ht
        simp only [List.drop_zero, List.drop_succ_cons, c24, c3, List.take_succ_cons, List.take_zero] at t0 t1
        obtain ⟨q0, q1, q2, n3, _, _, s0, s1, s2⟩ := trod_struct3 Try.underlying24 t1
        simp only [List.drop_zero, List.drop_succ_cons, c22, c3, List.take_succ_cons, List.take_zero] at s0 s1 s2
        obtain ⟨u, e0, _, wu⟩ := DataW.trod_int Try.underlying3 t0
        obtain ⟨v, e1, _, wv⟩ := DataW.trod_int Try.underlying22 s0
        obtain ⟨z, e2, _, wz⟩ := DataW.trod_int Try.underlying22 s1
        obtain ⟨z3, e3, _, wz3⟩ := DataW.trod_int Try.underlying3 s2
        simp only [List.cons.injEq, and_true] at e0 e1 e2 e3
        subst e0 e1 e2 e3
        have h0 := hat 0 (by omega)
        have h1 := hat 1 (by omega)
        have h2 := hat 2 (by omega)
        have h3 := hat 3 (by omega)
        rw [add_add] at h0 h1 h2 h3
        exact ⟨(u, v, z, z3), by simpa using h0, by simpa using h1, by simpa using h2, by simpa using h3, wu⟩
    have hex : ∃ f : Nat → Int × K3, ∀ i, i < m → W.cell? (x.add (i * 4)) = some (.int .i64 (f i).1) ∧ W.cell? (x.add (i * 4 + 1)) = some (.int .u32 (f i).2.1) ∧ W.cell? (x.add (i * 4 + 2)) = some (.int .u32 (f i).2.2.1) ∧ W.cell? (x.add (i * 4 + 3)) = some (.int .i64 (f i).2.2.2) ∧ (dkey (f i).1).wf = true := by
      refine ⟨fun i => if h : i < m then Classical.choose (each i h) else (0, 0, 0, 0), fun i hi => ?_⟩
      simp only [hi, dif_pos]
      exact Classical.choose_spec (each i hi)
    obtain ⟨f, hf'⟩ := hex
    refine ⟨f, by omega, fun h0 => ?_⟩
    obtain ⟨b, off, spot⟩ := x
    have h1 := (hf' 0 (by omega)).1
    have hspot : spot = none := by simpa [Addr.add] using World.cell?_spot h1
    subst hspot
    refine ⟨b, off, rfl, World.block_lt_of_cell? W _ h1, fun i hi => ?_⟩
    have := hf' i (by omega)
    rw [add_plain, add_plain, add_plain, add_plain] at this
    exact this
end Go.Proofs.Ytoembbdjpelogaa
