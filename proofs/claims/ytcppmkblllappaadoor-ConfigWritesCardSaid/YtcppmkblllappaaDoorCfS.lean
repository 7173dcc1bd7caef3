/-
  The document's Names.
-/
import Derived.Test.YtcppmkblllappaaDoorCfR
namespace Go.Proofs.YtcppmkblllappaaDoor
open Go.RowKit

abbrev nmObj : Obj := .cells ((List.range 15).map fun i => Value.string (nmA i)).toArray 9
theorem nm_at {w : World} {S : Nat} (h : Blk w S nmObj) {i : Nat} (hi : i < 15) : w.cell? ⟨S, i, none⟩ = some (.string (nmA i)) := by
  rw [h.cell i, List.getElem?_toArray, List.getElem?_map, List.getElem?_range hi]; rfl
theorem build15 (w : World) : (Instr.buildSlice 52 15 #[(0, .string ⟨#[119, 105, 100, 116, 104]⟩), (1, .string ⟨#[115, 116, 101, 112, 115]⟩), (2, .string ⟨#[104, 101, 105, 103, 104, 116]⟩), (3, .string ⟨#[100, 101, 97, 100]⟩), (4, .string ⟨#[119, 105, 110, 100, 111, 119]⟩), (5, .string ⟨#[102, 114, 97, 109, 101, 115]⟩), (6, .string ⟨#[102, 114, 97, 109, 101, 115, 45, 116, 105, 99, 107]⟩), (7, .string ⟨#[98, 108, 111, 99, 107, 115]⟩), (8, .string ⟨#[98, 108, 111, 99, 107, 115, 45, 116, 105, 99, 107]⟩), (9, .string ⟨#[104, 111, 108, 100]⟩), (10, .string ⟨#[108, 105, 102, 101]⟩), (11, .string ⟨#[112, 101, 114, 105, 111, 100]⟩), (12, .string ⟨#[115, 101, 116, 116, 108, 101]⟩), (13, .string ⟨#[109, 111, 115, 116]⟩), (14, .string ⟨#[114, 111, 116, 97, 116, 101]⟩)]).run Tryd.prog w = .ok (.slice (some ⟨w.heap.size, 0, none⟩) 15 15) (w.alloc nmObj) := by kernel_rfl
set_option maxRecDepth 100000 in
theorem rnames_any (w : World) : Calls Tryd.prog 14 #[] w fun r w' => r = .returned (.slice (some ⟨w.heap.size, 0, none⟩) 15 15) ∧ w' = w.alloc nmObj := by
  go_enter Tryd.func14, Tryd.ntmps14
  go_wp2_with (refine wpList_buildSlice_eq rfl 52 15 #[(0, Operand.const (.string ⟨#[119, 105, 100, 116, 104]⟩)), (1, Operand.const (.string ⟨#[115, 116, 101, 112, 115]⟩)), (2, Operand.const (.string ⟨#[104, 101, 105, 103, 104, 116]⟩)), (3, Operand.const (.string ⟨#[100, 101, 97, 100]⟩)), (4, Operand.const (.string ⟨#[119, 105, 110, 100, 111, 119]⟩)), (5, Operand.const (.string ⟨#[102, 114, 97, 109, 101, 115]⟩)), (6, Operand.const (.string ⟨#[102, 114, 97, 109, 101, 115, 45, 116, 105, 99, 107]⟩)), (7, Operand.const (.string ⟨#[98, 108, 111, 99, 107, 115]⟩)), (8, Operand.const (.string ⟨#[98, 108, 111, 99, 107, 115, 45, 116, 105, 99, 107]⟩)), (9, Operand.const (.string ⟨#[104, 111, 108, 100]⟩)), (10, Operand.const (.string ⟨#[108, 105, 102, 101]⟩)), (11, Operand.const (.string ⟨#[112, 101, 114, 105, 111, 100]⟩)), (12, Operand.const (.string ⟨#[115, 101, 116, 116, 108, 101]⟩)), (13, Operand.const (.string ⟨#[109, 111, 115, 116]⟩)), (14, Operand.const (.string ⟨#[114, 111, 116, 97, 116, 101]⟩))] rfl #[(0, .string ⟨#[119, 105, 100, 116, 104]⟩), (1, .string ⟨#[115, 116, 101, 112, 115]⟩), (2, .string ⟨#[104, 101, 105, 103, 104, 116]⟩), (3, .string ⟨#[100, 101, 97, 100]⟩), (4, .string ⟨#[119, 105, 110, 100, 111, 119]⟩), (5, .string ⟨#[102, 114, 97, 109, 101, 115]⟩), (6, .string ⟨#[102, 114, 97, 109, 101, 115, 45, 116, 105, 99, 107]⟩), (7, .string ⟨#[98, 108, 111, 99, 107, 115]⟩), (8, .string ⟨#[98, 108, 111, 99, 107, 115, 45, 116, 105, 99, 107]⟩), (9, .string ⟨#[104, 111, 108, 100]⟩), (10, .string ⟨#[108, 105, 102, 101]⟩), (11, .string ⟨#[112, 101, 114, 105, 111, 100]⟩), (12, .string ⟨#[115, 101, 116, 116, 108, 101]⟩), (13, .string ⟨#[109, 111, 115, 116]⟩), (14, .string ⟨#[114, 111, 116, 97, 116, 101]⟩)] (by kernel_rfl) (.slice (some ⟨w.heap.size, 0, none⟩) 15 15) (w.alloc nmObj) (build15 w) ?_)
  go_ret
  exact ⟨rfl, rfl⟩
end Go.Proofs.YtcppmkblllappaaDoor
