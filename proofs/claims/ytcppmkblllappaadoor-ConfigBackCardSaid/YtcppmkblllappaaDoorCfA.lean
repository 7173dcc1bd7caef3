/-
  Rules as cells, and their numbers.
-/
import Derived.Test.YtcppmkblllappaaDoorLaid
import Derived.Test.YtcppmkblllappaaDoorGen
import Derived.IntWalk
namespace Go.Proofs.YtcppmkblllappaaDoor
open Go.RowKit

theorem wpList_build_eq {P : Program} {w : World} {ops : Array Oper} {rest : List Oper} {o : Oper} {a : Act} {Q : Exit → Act → World → Prop} (hg : o.guard = none) (t : TypeId) (parts : Array (Nat × Operand)) (ho : o.op = .build t parts)
    (ps : Array (Nat × Value)) (hps : (parts.map fun (i, x) => (i, a.eval x)) = ps) (cells : Array Value) (hc : P.built t ps.toList = some cells) (h : wpList P ops Q rest (a.put o.dst (.agg cells)) w) : wpList P ops Q (o :: rest) a w := by
  subst hps
  refine wpList_plain hg fun _ hK => ?_
  unfold Oper.wp execOp
  simp only [ho, Sem.run_bind, run_build w t _ cells hc, Result.andThen_ok]
  exact hK _ _ h
theorem wpList_buildSlice_eq {P : Program} {w : World} {ops : Array Oper} {rest : List Oper} {o : Oper} {a : Act} {Q : Exit → Act → World → Prop} (hg : o.guard = none) (t : TypeId) (len : Nat) (parts : Array (Nat × Operand)) (ho : o.op = .buildSlice t len parts)
    (ps : Array (Nat × Value)) (hps : (parts.map fun (i, x) => (i, a.eval x)) = ps) (v : Value) (w' : World) (hrun : (Instr.buildSlice t len ps).run P w = .ok v w') (h : wpList P ops Q rest (a.put o.dst v) w') : wpList P ops Q (o :: rest) a w := by
  subst hps
  refine wpList_plain hg fun _ hK => ?_
  unfold Oper.wp execOp
  simp only [ho, Sem.run_bind, hrun, Result.andThen_ok]
  exact hK _ _ h
theorem wpList_box_eq {P : Program} {w : World} {ops : Array Oper} {rest : List Oper} {o : Oper} {a : Act} {Q : Exit → Act → World → Prop} (hg : o.guard = none) (t : TypeId) (x : Operand) (ho : o.op = .box t x)
    (u : Value) (hx : a.eval x = u) (v : Value) (w' : World) (hrun : (Instr.box t u).run P w = .ok v w') (h : wpList P ops Q rest (a.put o.dst v) w') : wpList P ops Q (o :: rest) a w := by
  subst hx
  refine wpList_plain hg fun _ hK => ?_
  unfold Oper.wp execOp
  simp only [ho, Sem.run_bind, hrun, Result.andThen_ok]
  exact hK _ _ h
theorem box_row {t : TypeId} {cs : List Value} (h1 : (Tryd.prog.info? t).map (·.size) = some cs.toArray.size) (w : World) : (Instr.box t (.agg cs.toArray)).run Tryd.prog w = .ok (.pointer (some ⟨w.heap.size, 0, none⟩)) (w.alloc (.cells cs.toArray t)) := by
  cases hq : Tryd.prog.info? t with
  | none => simp [hq] at h1
  | some i =>
    have hi : i.size = cs.toArray.size := by simpa [hq] using h1
    simp [Instr.box, newVar, sizeOf, typeInfo, hq, hi, Value.cells, newRow]
/-- The cells of rules. -/
def rc (r : Nat → Int) : List Value := (List.range 15).map fun i => .int .i64 (r i)
def r0 : Nat → Int := fun _ => 0
def upd (f : Nat → Int) (k : Nat) (v : Int) : Nat → Int := fun i => if i = k then v else f i
abbrev rObj (r : Nat → Int) : Obj := .cells (rc r).toArray 33
theorem rc_len (f : Nat → Int) : (rc f).length = 15 := by simp [rc]
theorem rc_at (f : Nat → Int) {i : Nat} (h : i < 15) : (rc f)[i]? = some (.int .i64 (f i)) := by simp [rc, h]
theorem rc_one (f : Nat → Int) : ∀ v ∈ rc f, v.oneCell' = true := by
  intro v hv
  obtain ⟨i, _, rfl⟩ := List.mem_map.1 hv
  rfl
theorem rc_set (f : Nat → Int) (k : Nat) (v : Int) : (rc f).set k (.int .i64 v) = rc (upd f k v) := by
  apply List.ext_getElem?
  intro i
  by_cases hi : i < 15
  · rw [rc_at _ hi, List.getElem?_set]
    unfold upd
    by_cases e : k = i
    · subst e; simp [rc, hi]
    · rw [if_neg e, rc_at _ hi, if_neg (fun h => e h.symm)]
  · rw [List.getElem?_eq_none (by rw [List.length_set, rc_len]; omega), List.getElem?_eq_none (by rw [rc_len]; omega)]
theorem Blk.rc {w : World} {b : Nat} {f : Nat → Int} {t : TypeId} (h : Blk w b (.cells (rc f).toArray t)) {i : Nat} (hi : i < 15) : w.cell? ⟨b, i, none⟩ = some (.int .i64 (f i)) := by
  rw [h.cell i, List.getElem?_toArray, rc_at f hi]
/-- Names, the least, the greatest, and what is usual. -/
def nmB : List (List UInt8) := [[119, 105, 100, 116, 104], [115, 116, 101, 112, 115], [104, 101, 105, 103, 104, 116], [100, 101, 97, 100], [119, 105, 110, 100, 111, 119], [102, 114, 97, 109, 101, 115], [102, 114, 97, 109, 101, 115, 45, 116, 105, 99, 107], [98, 108, 111, 99, 107, 115], [98, 108, 111, 99, 107, 115, 45, 116, 105, 99, 107], [104, 111, 108, 100], [108, 105, 102, 101], [112, 101, 114, 105, 111, 100], [115, 101, 116, 116, 108, 101], [109, 111, 115, 116], [114, 111, 116, 97, 116, 101]]
def lsB : List Int := [1, 1, 0, 1, 1, 1, 0, 1, 0, 0, 1, 1, 0, 64, 1]
def gtB : List Int := [8, 15, 6, 1048576, 64, 1073741824, 1073741824, 1073741824, 1073741824, 1048576, 1048576, 1048576, 1048576, 4096, 1048576]
def usB : List Int := [4, 6, 3, 4, 32, 200, 60, 20000, 6000, 6, 60, 10, 2, 700, 20]
def nmA (i : Nat) : ByteArray := ⟨(nmB.getD i []).toArray⟩
def ls (i : Nat) : Int := lsB.getD i 0
def gt (i : Nat) : Int := gtB.getD i 0
def us (i : Nat) : Int := usB.getD i 0
/-- One of the numbers of the rules in block g. -/
def nbc (g i : Nat) : List Value := [.string (nmA i), .int .i64 (ls i), .int .i64 (gt i), .int .i64 (us i), .pointer (some ⟨g, i, none⟩)]
def nbRow (g : Nat) : List Value := (List.range 15).flatMap (nbc g)
abbrev nbObj (g : Nat) : Obj := .cells (nbRow g).toArray 75
theorem nbRow_at (g : Nat) : ∀ {i k : Nat}, i < 15 → k < 5 → (nbRow g)[i * 5 + k]? = (nbc g i)[k]? := by
  intro i k hi hk
  have hl : nbRow g = nbc g 0 ++ (nbc g 1 ++ (nbc g 2 ++ (nbc g 3 ++ (nbc g 4 ++ (nbc g 5 ++ (nbc g 6 ++ (nbc g 7 ++ (nbc g 8 ++ (nbc g 9 ++ (nbc g 10 ++ (nbc g 11 ++ (nbc g 12 ++ (nbc g 13 ++ nbc g 14))))))))))))) := rfl
  have h1 : i = 0 ∨ i = 1 ∨ i = 2 ∨ i = 3 ∨ i = 4 ∨ i = 5 ∨ i = 6 ∨ i = 7 ∨ i = 8 ∨ i = 9 ∨ i = 10 ∨ i = 11 ∨ i = 12 ∨ i = 13 ∨ i = 14 := by omega
  have h2 : k = 0 ∨ k = 1 ∨ k = 2 ∨ k = 3 ∨ k = 4 := by omega
  rcases h1 with rfl | rfl | rfl | rfl | rfl | rfl | rfl | rfl | rfl | rfl | rfl | rfl | rfl | rfl | rfl <;> rcases h2 with rfl | rfl | rfl | rfl | rfl <;> rfl
theorem nb_cells {w : World} {L g : Nat} (h : Blk w L (nbObj g)) {i : Nat} (hi : i < 15) : w.rangeAt L (i * 5) (nbc g i) := fun j v hv => by
  have hj : j < 5 := by have := (List.getElem?_eq_some_iff.1 hv).1; simpa [nbc] using this
  rw [h.cell (i * 5 + j), List.getElem?_toArray, nbRow_at g hi hj]
  exact hv
theorem oper_buildSlice {P : Program} {Q : Exit → Act → World → Prop} {K : Act → World → Prop} {o : Oper} {a : Act} {w : World} (t : TypeId) (len : Nat) (parts : Array (Nat × Operand)) (ho : o.op = .buildSlice t len parts)
    (ps : Array (Nat × Value)) (hps : (parts.map fun (i, x) => (i, a.eval x)) = ps) (v : Value) (w' : World) (hrun : (Instr.buildSlice t len ps).run P w = .ok v w') (h : K (a.put o.dst v) w') : Oper.wp P o a w K Q := by
  subst hps
  unfold Oper.wp execOp
  simp only [ho, Sem.run_bind, hrun, Result.andThen_ok]
  exact h
/-- What numbers answers: a row in new memory. -/
def NumPost (g : Nat) (w : World) (r : Ending) (w' : World) : Prop := ∃ L, r = .returned (.slice (some ⟨L, 0, none⟩) 15 15) ∧ Blk w' L (nbObj g) ∧ w.heap.size ≤ L ∧ Below w.heap.size w w'
set_option maxRecDepth 100000 in
set_option maxHeartbeats 6400000 in
theorem numbers_any (g : Nat) (w : World) : Calls Tryd.prog 23 #[.pointer (some ⟨g, 0, none⟩)] w (NumPost g w) := by
  have hbs : ∀ w : World, (Instr.buildSlice 64 15 #[(0, .agg (nbc g 0).toArray), (1, .agg (nbc g 1).toArray), (2, .agg (nbc g 2).toArray), (3, .agg (nbc g 3).toArray), (4, .agg (nbc g 4).toArray), (5, .agg (nbc g 5).toArray), (6, .agg (nbc g 6).toArray), (7, .agg (nbc g 7).toArray), (8, .agg (nbc g 8).toArray), (9, .agg (nbc g 9).toArray), (10, .agg (nbc g 10).toArray), (11, .agg (nbc g 11).toArray), (12, .agg (nbc g 12).toArray), (13, .agg (nbc g 13).toArray), (14, .agg (nbc g 14).toArray)]).run Tryd.prog w = .ok (.slice (some ⟨w.heap.size, 0, none⟩) 15 15) (w.alloc (nbObj g)) := fun w => by kernel_rfl
  go_enter Tryd.func23, Tryd.ntmps23
  go_wp2_with fail
  simp only [List.append_eq, List.cons_append, List.nil_append]
  refine wp_region_flow_vars (fun w' => Below w.heap.size w w') (List.range 69) [] [69, 70] (fun _ => .cells #[] 0) (by kernel_rfl) (by kernel_rfl) (by kernel_rfl) (by decide)
    (fun _ _ h hb => h.trans (hb.mono h.size)) (Below.drew (Below.refl _ _)) (by simp) (by decide) ?_
  refine flowN_sel _ _ (by decide) ?_
  simp only [sel, List.filterMap_cons, List.filterMap_nil, List.getElem?_toArray, List.getElem?_cons_succ, List.getElem?_cons_zero, show List.range 69 = [0, 1, 2, 3, 4, 5, 6, 7, 8, 9, 10, 11, 12, 13, 14, 15, 16, 17, 18, 19, 20, 21, 22, 23, 24, 25, 26, 27, 28, 29, 30, 31, 32, 33, 34, 35, 36, 37, 38, 39, 40, 41, 42, 43, 44, 45, 46, 47, 48, 49, 50, 51, 52, 53, 54, 55, 56, 57, 58, 59, 60, 61, 62, 63, 64, 65, 66, 67, 68] from rfl]
  repeat (first
    | (apply Flow.value
       · rfl
       · (intro wx hS; go_simp; with_reducible rfl)
       try simp only [Act.put, List.setIfInBounds_toArray, List.set_cons_zero, List.set_cons_succ]))
  refine Flow.done ?_
  intro γ w4 hS hn hg
  simp only [putNew]
  have K4 := Kp.mk hS
  clear hS hn hg
  refine wpOps_step rfl (by rfl) ?_
  refine oper_buildSlice 64 15 _ rfl #[(0, .agg (nbc g 0).toArray), (1, .agg (nbc g 1).toArray), (2, .agg (nbc g 2).toArray), (3, .agg (nbc g 3).toArray), (4, .agg (nbc g 4).toArray), (5, .agg (nbc g 5).toArray), (6, .agg (nbc g 6).toArray), (7, .agg (nbc g 7).toArray), (8, .agg (nbc g 8).toArray), (9, .agg (nbc g 9).toArray), (10, .agg (nbc g 10).toArray), (11, .agg (nbc g 11).toArray), (12, .agg (nbc g 12).toArray), (13, .agg (nbc g 13).toArray), (14, .agg (nbc g 14).toArray)] (by simp only [List.map_toArray, List.map_cons, List.map_nil]; rfl) (.slice (some ⟨w4.heap.size, 0, none⟩) 15 15) (w4.alloc (nbObj g)) (hbs w4) ?_
  have HX : Kp (NumPost g w (.returned (.slice (some ⟨w4.heap.size, 0, none⟩) 15 15)) (w4.alloc (nbObj g))) := ⟨_, rfl, Blk.new _ _, K4.out.size, K4.out.alloc K4.out.size _⟩
  clear K4
  refine wpOps_step rfl (by rfl) ?_
  go_simp
  refine wpOps_done ?_
  go_wp2_with fail
  go_ret
  exact HX.out
end Go.Proofs.YtcppmkblllappaaDoor
