/-
  slate.Read: what isn't read.
-/
import Derived.Test.YtgikedbnnlckjaaSlH
namespace Go.Proofs.Ytgikedbnnlckjaa
open Go.RowKit Go.Shelf
attribute [local go_sem] Oper.semAt_some

def z64 : List Int := List.replicate 64 0
theorem z64_len : z64.length = 64 := by simp [z64]
theorem infoz64 : (Try.prog.info? 35).map (fun i => (i.zero, i.size)) = some (some (.agg (kv .u8 z64).toArray), 64) := by kernel_rfl
/-- A sector as a device tells it. -/
def readL (s : SlS) (k : Nat) : List Int := match s.q.reverse.find? (fun x => x.1 == k) with
  | some x => x.2
  | none => (s.ls.drop (k * 64)).take 64
def readZ (s : SlS) (a : Int) : List Int := if hasE s a = 0 then readL s a.toNat else z64
def ReadPost (z : List Int) (e : Int) (w : World) (r : Ending) (w' : World) : Prop := r = .returned (.tuple #[sec z, .int .i64 e]) ∧ Below w.heap.size w w'
theorem results_row_cell {P : Program} {fn : Func} {p q : Tmp} {ty tq : TypeId} (h : fn.results = #[.cell p ty, .cell q tq]) (tmps : Array Value) (w : World) (g gq : Nat) (t t2 : TypeId) (cs : Array Value) (fr : Nat × Nat) (d : TypeDesc) (u : Value)
    (hp : tmps.getD p undef = .pointer (some ⟨g, 0, none⟩)) (hq : tmps.getD q undef = .pointer (some ⟨gq, 0, none⟩)) (hg : w.heap[g]? = some (.cells cs t fr)) (hgq : Blk w gq (.cells #[u] t2))
    (hu : P.underlying ty = some d) (hd : (match d with | .struct _ | .array _ _ => true | _ => false) = true) (hi : (P.info? ty).map (·.size) = some cs.size)
    (hl : ∀ w : World, w.cell? ⟨gq, 0, none⟩ = some u → (loadVar tq ⟨gq, 0, none⟩).run P w = .ok u w) :
    (results fn tmps).run P w = .ok (.tuple #[.agg cs, u]) w := by
  have hp' : tmps[p]?.getD undef = .pointer (some ⟨g, 0, none⟩) := by simpa using hp
  have hq' : tmps[q]?.getD undef = .pointer (some ⟨gq, 0, none⟩) := by simpa using hq
  have h1 := hl w (hgq.cell 0)
  simp [results, h, hp', hq', asAddr, run_loadVar_row w g t ty cs fr d hg hu hd hi, h1]
theorem load24 (gq : Nat) (u : Value) (w : World) (h : w.cell? ⟨gq, 0, none⟩ = some u) : (loadVar 24 ⟨gq, 0, none⟩).run Try.prog w = .ok u w := by
  go_simp
theorem build35z (w : World) : (Instr.build 35 #[]).run Try.prog w = .ok (sec z64) w := run_build w 35 #[] _ (by kernel_rfl)
theorem wpList_val {P : Program} {ops : Array Oper} {rest : List Oper} {o : Oper} {a : Act} {w w' : World} {Q : Exit → Act → World → Prop} {v : Value} (hg : o.guard = none)
    (he : (execOp a.eval o).run P w = .ok (.value v) w')
    (h : wpList P ops Q rest (a.put o.dst v) w') : wpList P ops Q (o :: rest) a w := by
  refine wpList_plain hg fun K hK => ?_
  unfold Oper.wp
  rw [he]
  exact hK _ _ h
theorem exec_build35z {o : Oper} {a : Act} {w : World} (ho : o.op = .build 35 #[]) : (execOp a.eval o).run Try.prog w = .ok (.value (sec z64)) w := by
  unfold execOp
  simp only [ho, List.map_toArray, List.map_nil, Sem.run_bind, build35z, Result.andThen_ok, Sem.run_pure]
theorem cells64 {z : List Int} (h : z.length = 64) : (Try.prog.info? 35).map (·.size) = some (kv .u8 z).toArray.size := cells35 h
/-- What Read has in hand behind its has: boxes of the place and of the results. -/
structure Rd (w : World) (B : Nat) (a : Int) (z : List Int) (e : Int) (w0 : World) : Prop where
  b0 : Blk w B (.cells #[.int .i64 a] 3)
  b1 : Row w (B + 1) 35 .u8 z
  b2 : Blk w (B + 2) (.cells #[.int .i64 e] 24)
  hb : Below B w0 w

theorem Rd.box {w : World} {B : Nat} {a e : Int} {z : List Int} {w0 : World} (h : Rd w B a z e w0) (m : List Int) : Rd (w.setRow (B + 1) (kv .u8 m).toArray) B a m e w0 :=
  ⟨(setRow_other w (B + 1) B _ (by omega)).trans h.b0, h.b1.setRow m, (setRow_other w (B + 1) (B + 2) _ (by omega)).trans h.b2, Below.row h.hb (by omega) _⟩
theorem Rd.err {w : World} {B : Nat} {a e : Int} {z : List Int} {w0 : World} (h : Rd w B a z e w0) (f : Int) : Rd (w.setCell ⟨B + 2, 0, none⟩ (.int .i64 f)) B a z f w0 :=
  ⟨h.b0.setOther (by simp) _, h.b1.other (by simp) _, h.b2.set 0 _, h.hb.setCell (p := ⟨B + 2, 0, none⟩) (by simp) _⟩

set_option maxRecDepth 100000 in
set_option maxHeartbeats 2000000 in
theorem read_nil (a : Int) (w : World) : Calls Try.prog 14 #[.pointer none, .int .i64 a] w (ReadPost z64 2 w) := by
  go_enter Try.func14, Try.ntmps14
  go_wp2_with (refine wpList_alloc_row rfl 35 rfl _ _ infoz64 ?_; refine wpl_world (fun w2 => Row w2 (w.heap.size + 1) 35 .u8 z64 ∧ Blk w2 w.heap.size (.cells #[.int .i64 a] 3) ∧ Below w.heap.size w w2 ∧ w2.heap.size = w.heap.size + 2) ⟨Blk.newAt _ (by simp), (Blk.new _ _).old _, more (more (Below.refl _ _) _) _, by simp⟩ ?_; rintro W2 ⟨h1, h2, h3, h4⟩; have K1 := Kp.mk h1; have K2 := Kp.mk h2; have K3 := Kp.mk h3; have K4 := Kp.mk h4; have h2 := h2.one; clear h1 h3)
  refine (has_nil _ _).mono ?_
  rintro r w1 ⟨rfl, rfl⟩
  have HR : Kp (Rd (W2.alloc (.cells #[.int .i64 0] 24)) w.heap.size a z64 0 w) := ⟨⟨K2.out.old _, K1.out.alloc _, Blk.newAt _ K4.out.symm, K3.out.alloc (by rw [K4.out]; omega) _⟩⟩
  clear h2 h4 K1 K2 K3 K4
  generalize (W2.alloc (.cells #[.int .i64 0] 24)) = W3 at HR ⊢
  have hc2 := HR.out.b2.one
  have hb0 := HR.out.b0.one
  go_wp2_with (first
    | (refine wpList_val rfl (exec_build35z rfl) ?_)
    | (refine wpList_store_row rfl 35 (.tmp 4) (.tmp 14) rfl (w.heap.size + 1) (kv .u8 z64).toArray rfl rfl 35 _ HR.out.b1 (cells64 z64_len) rfl (kv_all _ _) ?_; refine wpl_world (fun w4 => Rd w4 w.heap.size a z64 0 w) (HR.out.box z64) ?_; intro W4 h4; have K5 := Kp.mk h4; clear h4 hc2 hb0; have hc3 := K5.out.b2.one))
  refine bodyPost_ret (results_row_cell rfl _ _ (w.heap.size + 1) (w.heap.size + 2) 35 24 _ (0, 0) _ _ rfl rfl (K5.out.err 2).b1 (K5.out.err 2).b2 Try.underlying35 rfl (cells64 z64_len) (load24 _ _)) rfl ⟨rfl, (K5.out.err 2).hb⟩
end Go.Proofs.Ytgikedbnnlckjaa
