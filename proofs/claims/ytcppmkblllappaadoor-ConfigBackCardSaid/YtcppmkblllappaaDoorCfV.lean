/-
  Rules held against each other.
-/
import Derived.Test.YtcppmkblllappaaDoorCfU
import Derived.DeepKeys
namespace Go.Proofs.YtcppmkblllappaaDoor
open Go.RowKit Go.Maps

abbrev I64 (n : Int) : Prop := -9223372036854775808 ≤ n ∧ n ≤ 9223372036854775807
def litsR (f : Nat → Int) : List Lit := (List.range 15).map fun i => .int .i64 (f i)
def sameR (f g : Nat → Int) : Bool := (List.range 15).all fun i => f i == g i
theorem sameR_iff (f g : Nat → Int) : sameR f g = true ↔ rc f = rc g := by
  unfold sameR rc
  rw [List.all_eq_true]
  constructor
  · intro h
    apply List.map_congr_left
    intro i hi
    rw [eq_of_beq (h i hi)]
  · intro h i hi
    have h2 := congrArg (fun l => l[i]?) h
    have hi' := List.mem_range.1 hi
    simp [hi'] at h2
    simp [h2]
theorem litsR_eq (f g : Nat → Int) : litsR f = litsR g ↔ rc f = rc g := by
  unfold litsR rc
  constructor
  · intro h
    apply List.map_congr_left
    intro i hi
    have h2 := congrArg (fun l => l[i]?) h
    have hi' := List.mem_range.1 hi
    simp [hi'] at h2
    rw [h2]
  · intro h
    apply List.map_congr_left
    intro i hi
    have h2 := congrArg (fun l => l[i]?) h
    have hi' := List.mem_range.1 hi
    simp [hi'] at h2
    rw [h2]
theorem kl3 {d : Nat} {n : Int} (h : I64 n) : Tryd.prog.keyLits (d + 1) 3 [.int .i64 n] = some [.int .i64 n] := by
  unfold Program.keyLits
  rw [Tryd.underlying3]
  simp only
  rw [if_pos]
  have h1 : IntKind.i64.min = -9223372036854775808 := by decide
  have h2 : IntKind.i64.max = 9223372036854775807 := by decide
  simp [Lit.wf, h1, h2]
  exact h
theorem c3 : Tryd.prog.cellsOf 3 = 1 := by kernel_rfl
theorem c23 : Tryd.prog.cellsOf 23 = 3 := by kernel_rfl
theorem c25 : Tryd.prog.cellsOf 25 = 4 := by kernel_rfl
theorem c27 : Tryd.prog.cellsOf 27 = 6 := by kernel_rfl
theorem c29 : Tryd.prog.cellsOf 29 = 2 := by kernel_rfl
theorem c31 : Tryd.prog.cellsOf 31 = 2 := by kernel_rfl
theorem c33 : Tryd.prog.cellsOf 33 = 15 := by kernel_rfl
theorem c40 : Tryd.prog.cellsOf 40 = 15 := by kernel_rfl
theorem kl23 {d : Nat} {a b c : Int} (ha : I64 a) (hb : I64 b) (hc : I64 c) : Tryd.prog.keyLits (d + 2) 23 [.int .i64 a, .int .i64 b, .int .i64 c] = some [.int .i64 a, .int .i64 b, .int .i64 c] := by
  unfold Program.keyLits
  rw [Tryd.underlying23]
  simp [c23, c3, kl3 ha, kl3 hb, kl3 hc]
theorem kl25 {d : Nat} {a b c x : Int} (ha : I64 a) (hb : I64 b) (hc : I64 c) (hx : I64 x) : Tryd.prog.keyLits (d + 2) 25 [.int .i64 a, .int .i64 b, .int .i64 c, .int .i64 x] = some [.int .i64 a, .int .i64 b, .int .i64 c, .int .i64 x] := by
  unfold Program.keyLits
  rw [Tryd.underlying25]
  simp [c25, c3, kl3 ha, kl3 hb, kl3 hc, kl3 hx]
theorem kl29 {d : Nat} {a b : Int} (ha : I64 a) (hb : I64 b) : Tryd.prog.keyLits (d + 2) 29 [.int .i64 a, .int .i64 b] = some [.int .i64 a, .int .i64 b] := by
  unfold Program.keyLits
  rw [Tryd.underlying29]
  simp [c29, c3, kl3 ha, kl3 hb]
theorem kl31 {d : Nat} {a b : Int} (ha : I64 a) (hb : I64 b) : Tryd.prog.keyLits (d + 2) 31 [.int .i64 a, .int .i64 b] = some [.int .i64 a, .int .i64 b] := by
  unfold Program.keyLits
  rw [Tryd.underlying31]
  simp [c31, c3, kl3 ha, kl3 hb]
theorem kl27 {d : Nat} {a b c x y z : Int} (ha : I64 a) (hb : I64 b) (hc : I64 c) (hx : I64 x) (hy : I64 y) (hz : I64 z) : Tryd.prog.keyLits (d + 3) 27 [.int .i64 a, .int .i64 b, .int .i64 c, .int .i64 x, .int .i64 y, .int .i64 z] = some [.int .i64 a, .int .i64 b, .int .i64 c, .int .i64 x, .int .i64 y, .int .i64 z] := by
  unfold Program.keyLits
  rw [Tryd.underlying27]
  simp [c27, c3, c25, kl3 ha, kl3 hb, kl25 hc hx hy hz]
theorem rc_list (f : Nat → Int) : rc f = [.int .i64 (f 0), .int .i64 (f 1), .int .i64 (f 2), .int .i64 (f 3), .int .i64 (f 4), .int .i64 (f 5), .int .i64 (f 6), .int .i64 (f 7), .int .i64 (f 8), .int .i64 (f 9), .int .i64 (f 10), .int .i64 (f 11), .int .i64 (f 12), .int .i64 (f 13), .int .i64 (f 14)] := rfl
theorem litsR_list (f : Nat → Int) : litsR f = [.int .i64 (f 0), .int .i64 (f 1), .int .i64 (f 2), .int .i64 (f 3), .int .i64 (f 4), .int .i64 (f 5), .int .i64 (f 6), .int .i64 (f 7), .int .i64 (f 8), .int .i64 (f 9), .int .i64 (f 10), .int .i64 (f 11), .int .i64 (f 12), .int .i64 (f 13), .int .i64 (f 14)] := rfl
theorem kl33 {f : Nat → Int} (h : I64s f) : Tryd.prog.keyLits 10 33 (rc f) = some (litsR f) := by
  rw [rc_list, litsR_list]
  unfold Program.keyLits
  rw [Tryd.underlying33]
  simp [c33, c23, c27, c29, c31, c3, kl23 (h 0) (h 1) (h 2), kl27 (h 3) (h 4) (h 5) (h 6) (h 7) (h 8), kl29 (h 9) (h 10), kl31 (h 11) (h 12), kl3 (h 13), kl3 (h 14)]
theorem kl40 {f : Nat → Int} (h : I64s f) : Tryd.prog.keyLits 10 40 (rc f) = some (litsR f) := by
  rw [rc_list, litsR_list]
  unfold Program.keyLits
  rw [Tryd.underlying40]
  simp [c40, c3, show List.range 15 = [0, 1, 2, 3, 4, 5, 6, 7, 8, 9, 10, 11, 12, 13, 14] from rfl, kl3 (h 0), kl3 (h 1), kl3 (h 2), kl3 (h 3), kl3 (h 4), kl3 (h 5), kl3 (h 6), kl3 (h 7), kl3 (h 8), kl3 (h 9), kl3 (h 10), kl3 (h 11), kl3 (h 12), kl3 (h 13), kl3 (h 14)]
theorem fm40 (f : Nat → Int) : (Value.agg (rc f).toArray).formed Tryd.prog 40 = true := by kernel_rfl
theorem fm33 (f : Nat → Int) : (Value.agg (rc f).toArray).formed Tryd.prog 33 = true := by kernel_rfl
theorem eqb (t : TypeId) (f g : Nat → Int) (hk : Tryd.prog.keyTypeAt 5 t = true) (h1 : Tryd.prog.keyLits 10 t (rc f) = some (litsR f)) (h1' : Tryd.prog.keyLits 10 t (rc g) = some (litsR g)) (h2 : ∀ f, (Value.agg (rc f).toArray).formed Tryd.prog t = true) (w : World) :
    (binOp .eql t (.agg (rc f).toArray) (.agg (rc g).toArray)).run Tryd.prog w = .ok (.bool (sameR f g)) w ∧ (binOp .neq t (.agg (rc f).toArray) (.agg (rc g).toArray)).run Tryd.prog w = .ok (.bool (!sameR f g)) w := by
  obtain ⟨r, hr, hi⟩ := run_equalIn_deep (P := Tryd.prog) 9995 5 t hk w 10 10 (.agg (rc f).toArray) (.agg (rc g).toArray) _ _ (h2 f) (h2 g) h1 h1'
  have hr' : (Op.equalIn 10000 t (.agg (rc f).toArray) (.agg (rc g).toArray)).run Tryd.prog w = .ok r w := hr
  have hd : sameR f g = r := by
    rw [litsR_eq, ← sameR_iff] at hi
    cases r with
    | true => exact hi.1 rfl
    | false => exact Bool.eq_false_iff.2 fun h => absurd (hi.2 h) (by simp)
  rw [hd, run_eql_struct, run_neq_struct, hr']
  exact ⟨rfl, rfl⟩
theorem eq40 {f g : Nat → Int} (hf : I64s f) (hg : I64s g) (w : World) : (binOp .eql 40 (.agg (rc f).toArray) (.agg (rc g).toArray)).run Tryd.prog w = .ok (.bool (sameR f g)) w := (eqb 40 f g (by kernel_rfl) (kl40 hf) (kl40 hg) fm40 w).1
theorem eq33 {f g : Nat → Int} (hf : I64s f) (hg : I64s g) (w : World) : (binOp .eql 33 (.agg (rc f).toArray) (.agg (rc g).toArray)).run Tryd.prog w = .ok (.bool (sameR f g)) w := (eqb 33 f g (by kernel_rfl) (kl33 hf) (kl33 hg) fm33 w).1
theorem ne33 {f g : Nat → Int} (hf : I64s f) (hg : I64s g) (w : World) : (binOp .neq 33 (.agg (rc f).toArray) (.agg (rc g).toArray)).run Tryd.prog w = .ok (.bool (!sameR f g)) w := (eqb 33 f g (by kernel_rfl) (kl33 hf) (kl33 hg) fm33 w).2
theorem eqg40 (f g : Nat → Int) (x y : Operand) (w : World) : (eqGuard .eql 40 x y (.agg (rc f).toArray) (.agg (rc g).toArray)).run Tryd.prog w = .ok () w := by kernel_rfl
theorem eqg33 (f g : Nat → Int) (x y : Operand) (w : World) : (eqGuard .eql 33 x y (.agg (rc f).toArray) (.agg (rc g).toArray)).run Tryd.prog w = .ok () w := by kernel_rfl
theorem neg33 (f g : Nat → Int) (x y : Operand) (w : World) : (eqGuard .neq 33 x y (.agg (rc f).toArray) (.agg (rc g).toArray)).run Tryd.prog w = .ok () w := by kernel_rfl
theorem exec_load_blk {P : Program} {o : Oper} {a : Act} {w : World} (ty : TypeId) (x : Operand) (ho : o.op = .load ty x)
    (g : Nat) (hx : a.eval x = .pointer (some ⟨g, 0, none⟩)) (t : TypeId) (cs : Array Value) (fr : Nat × Nat) (d : TypeDesc) (hg : w.heap[g]? = some (.cells cs t fr))
    (hu : P.underlying ty = some d) (hd : (match d with | .struct _ | .array _ _ => true | _ => false) = true) (hi : (P.info? ty).map (·.size) = some cs.size) :
    (execOp a.eval o).run P w = .ok (.value (.agg cs)) w := by
  unfold execOp
  simp only [ho, hx, Instr.loadAt, Instr.sureAddr, Sem.run_bind, Sem.run_pure, Result.andThen_ok, run_loadVar_row w g t ty cs fr d hg hu hd hi]
end Go.Proofs.YtcppmkblllappaaDoor
