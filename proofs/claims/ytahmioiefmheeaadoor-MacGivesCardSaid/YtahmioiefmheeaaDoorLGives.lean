/-
  The law MacGives, walked.
-/
import Derived.Test.YtahmioiefmheeaaDoorGivesR
import Derived.Test.YtahmioiefmheeaaDoorAwake5
namespace Go.Proofs.YtahmioiefmheeaaDoor
open Go.RowKit

theorem exec_load_row {P : Program} {o : Oper} {a : Act} {w : World} (ty : TypeId) (x : Operand) (ho : o.op = .load ty x)
    (g : Nat) (hx : a.eval x = .pointer (some ⟨g, 0, none⟩)) (t : TypeId) (cs : Array Value) (fr : Nat × Nat) (d : TypeDesc) (hg : w.heap[g]? = some (.cells cs t fr))
    (hu : P.underlying ty = some d) (hd : (match d with | .struct _ | .array _ _ => true | _ => false) = true) (hi : (P.info? ty).map (·.size) = some cs.size) :
    (execOp a.eval o).run P w = .ok (.value (.agg cs)) w := by
  unfold execOp
  simp only [ho, hx, Instr.loadAt, Instr.sureAddr, Sem.run_bind, Sem.run_pure, Result.andThen_ok, run_loadVar_row w g t ty cs fr d hg hu hd hi]
set_option maxRecDepth 100000 in
set_option maxHeartbeats 1000000 in
theorem macGives_walk (x0 : List Int) (x1 : Int) (a2 : Option Addr) (len2 cap2 : Nat) (z2 : List Int) (w : World) (l0 : x0.length = 32) (b0 : Bytes x0) (w1 : (Lit.int .u8 x1).wf = true) (w2 : z2.length = len2 ∧ HoldsQ w a2 z2) (g2 : 8 * len2 ≤ 140737488351232) (hk : KonIs w) :
    Calls Tryd.prog 5 #[.agg (kv .u8 x0).toArray, .int .u8 x1, .slice a2 len2 cap2] w fun e w' => e = .returned (.bool true) ∧ Below w.heap.size w w' := by
  have h8 : 0 ≤ x1 ∧ x1 ≤ 255 := by
    have h1 : IntKind.u8.min = 0 := rfl
    have h2 : IntKind.u8.max = 255 := rfl
    simpa [Lit.wf, h1, h2] using w1
  have HC := Kp.mk (cells24 l0)
  have HL := Kp.mk l0
  have HB := Kp.mk b0
  have H8 := Kp.mk h8
  have HN := Kp.mk w2.1
  have HQ := Kp.mk w2.2
  have HG := Kp.mk g2
  have HK := Kp.mk hk
  have HE : Kp (∀ w, (binOp .eql 33 (dgV (halfL (macL x0 (prfB x1 len2 z2)))) (dgV (halfL (macL x0 (prfB x1 len2 z2))))).run Tryd.prog w = .ok (.bool true) w) := ⟨fun w => eql50 (p := halfL (macL x0 (prfB x1 len2 z2))) ((digest_bytes _).take 16) (halfL_len (macL_len _ _)) w⟩
  clear l0 b0 w1 w2 g2 hk h8
  go_enter Tryd.func5, Tryd.ntmps5
  go_wp2_with fail
  obtain ⟨d, hd⟩ : ∃ d, d = halfL (macL x0 (prfB x1 len2 z2)) := ⟨_, rfl⟩
  rw [← hd] at HE
  have HP1 : Kp (∀ wx, Below w.heap.size w wx → Calls Tryd.prog 26 #[.agg (kv .u8 x0).toArray, .int .u8 x1, .slice a2 len2 cap2] wx fun r w' => r = .returned (dgV d) ∧ Below wx.heap.size wx w') :=
    ⟨fun wx h => by rw [hd]; exact prf_any x0 x1 len2 cap2 a2 z2 wx (HK.out.keep h) HL.out HB.out H8.out HN.out (HQ.out.keep h) HG.out⟩
  have HP2 : Kp (∀ wx, Below w.heap.size w wx → Calls Tryd.prog 27 #[.agg (kv .u8 x0).toArray, .int .u8 x1, .slice a2 len2 cap2] wx fun r w' => r = .returned (dgV d) ∧ Below wx.heap.size wx w') :=
    ⟨fun wx h => by rw [hd]; exact rprf_any x0 x1 len2 cap2 a2 z2 wx HL.out HB.out H8.out HN.out (HQ.out.keep h) HG.out⟩
  clear hd
  refine wp_region_flow (fun w' => Below w.heap.size w w' ∧ Row w' w.heap.size 37 .u8 x0) (by kernel_rfl) (by kernel_rfl) (by kernel_rfl) (fun _ _ h hb => ⟨thru h.1 hb, h.2.keep hb⟩) ?_ ?_
  · exact ⟨(more (Below.refl _ _) _).drew, Row.drew (Blk.newAt _ rfl)⟩
  repeat (first
    | (apply Flow.idle
       · rfl
       try simp only [Act.put, List.setIfInBounds_toArray, List.set_cons_zero, List.set_cons_succ])
    | (apply Flow.value
       · rfl
       · (intro wx hS; refine exec_load_row 37 (.tmp 3) rfl w.heap.size rfl 37 (kv .u8 x0).toArray (0, 0) _ hS.2 Tryd.underlying37 rfl HC.out)
       try simp only [Act.put, List.setIfInBounds_toArray, List.set_cons_zero, List.set_cons_succ])
    | (apply Flow.value
       · rfl
       · (intro wx hS; have hq := HE.out; have hg := eqg50; go_simp; with_reducible rfl)
       try simp only [Act.put, List.setIfInBounds_toArray, List.set_cons_zero, List.set_cons_succ])
    | (apply Flow.call
       · rfl
       · (intro wx hS; go_simp; constructor <;> with_reducible rfl)
       · (intro wx hS; first
           | exact awake5 wx (HK.out.keep hS.1)
           | exact HP1.out wx hS.1
           | exact HP2.out wx hS.1)
       try simp only [Act.put, List.setIfInBounds_toArray, List.set_cons_zero, List.set_cons_succ]))
  refine Flow.done ?_
  intro w' hS
  go_wp2_with fail
  go_ret
  exact ⟨rfl, hS.1⟩
end Go.Proofs.YtahmioiefmheeaaDoor
