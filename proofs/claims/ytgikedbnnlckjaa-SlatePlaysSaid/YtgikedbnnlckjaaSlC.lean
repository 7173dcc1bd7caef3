/-
  slate.Write.
-/
import Derived.Test.YtgikedbnnlckjaaSlB
import Derived.Deep.AppendLies
import Derived.Deep.RegionHeld3
namespace Go.Proofs.Ytgikedbnnlckjaa
open Go.RowKit

theorem list64 {l : List Int} (h : l.length = 64) : ∃ f : Nat → Int, l = (List.range 64).map f := by
  refine ⟨fun i => l.getD i 0, List.ext_getElem (by simp [h]) fun i h1 h2 => ?_⟩
  rw [List.getElem_map, List.getElem_range, List.getD_eq_getElem?_getD, List.getElem?_eq_getElem h1]
  rfl
theorem info35 : (Try.prog.info? 35).map (·.size) = some 64 := by kernel_rfl
theorem cells35 {l : List Int} (h : l.length = 64) : (Try.prog.info? 35).map (·.size) = some (kv .u8 l).toArray.size := by rw [kv_size, h]; exact info35
theorem infoz35 : (Try.prog.info? 35).map (fun i => (i.zero, i.size)) = some (some (.agg (kv .u8 (List.replicate 64 0)).toArray), 64) := by kernel_rfl
theorem size35 {l : List Int} (h : l.length = 64) : (kv .u8 (List.replicate 64 0)).toArray.size = (kv .u8 l).toArray.size := by rw [kv_size, kv_size, h, List.length_replicate]
abbrev sec (z : List Int) : Value := .agg (kv .u8 z).toArray
theorem wcells_len {k : Nat} {z : List Int} (h : z.length = 64) : (wcells (k, z)).length = 1 * 65 := by simp [wcells, h]
theorem wcells_one (x : Nat × List Int) : ∀ u ∈ wcells x, u.oneCell' = true := fun u hu => by
  unfold wcells at hu
  rcases List.mem_cons.1 hu with rfl | h
  · rfl
  · obtain ⟨n, _, rfl⟩ := List.mem_map.1 h
    rfl
theorem built82 {k : Nat} {z : List Int} (h : z.length = 64) : Try.prog.built 82 [(0, .int .i64 k), (1, sec z)] = some (wcells (k, z)).toArray := by
  obtain ⟨f, rfl⟩ := list64 h
  kernel_rfl
theorem exec_build82 {o : Oper} {a : Act} {w : World} {x y : Operand} {k : Nat} {z : List Int} (hz : z.length = 64) (ho : o.op = .build 82 #[(0, x), (1, y)]) (hx : a.eval x = .int .i64 k) (hy : a.eval y = sec z) :
    (execOp a.eval o).run Try.prog w = .ok (.value (.agg (wcells (k, z)).toArray)) w := by
  have h := run_build (P := Try.prog) w 82 #[(0, .int .i64 k), (1, sec z)] _ (built82 hz)
  unfold execOp
  simp only [ho, List.map_toArray, List.map_cons, List.map_nil, hx, hy, Sem.run_bind, h, Result.andThen_ok, Sem.run_pure]
theorem build70 {k : Nat} {z : List Int} (h : z.length = 64) (w : World) : (Instr.buildSlice 70 1 #[(0, .agg (wcells (k, z)).toArray)]).run Try.prog w = .ok (.slice (some ⟨w.heap.size, 0, none⟩) 1 1) (w.alloc (.cells (wcells (k, z)).toArray 82)) := by
  obtain ⟨f, rfl⟩ := list64 h
  kernel_rfl
theorem wp_buildSlice_one {P : Program} {o : Oper} {a : Act} {w : World} {K : Act → World → Prop} {Q : Exit → Act → World → Prop} (t : TypeId) (len : Nat) (x : Operand) (ho : o.op = .buildSlice t len #[(0, x)])
    (u : Value) (hx : a.eval x = u) (v : Value) (w' : World) (hrun : (Instr.buildSlice t len #[(0, u)]).run P w = .ok v w') (h : K (a.put o.dst v) w') : o.wp P a w K Q := by
  subst hx
  unfold Oper.wp execOp
  simp only [ho, Sem.run_bind, List.map_toArray, List.map_cons, List.map_nil, hrun, Result.andThen_ok]
  exact h
theorem info82 : (Try.prog.info? 82).map (fun i => (i.zero, i.size, i.bytes)) = some (some (.agg (List.replicate 65 (Value.int .u8 0) |>.set 0 (.int .i64 0)).toArray), 65, 72) := by kernel_rfl
theorem qcells_add (q : List (Nat × List Int)) (x : Nat × List Int) : qcells (q ++ [x]) = qcells q ++ wcells x := by simp [qcells]
/-- What Write makes of a device. -/
def writeS (s : SlS) (a : Int) (z : List Int) : SlS := if hasE s a = 0 then (if stepE s = 0 then { stepS s with q := s.q ++ [(a.toNat, z)] } else stepS s) else s
def writeE (s : SlS) (a : Int) : Int := if hasE s a = 0 then stepE s else hasE s a
end Go.Proofs.Ytgikedbnnlckjaa
