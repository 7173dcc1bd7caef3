/-
  append to an empty row; a piece as the program's; a nil joiner.
-/
import Derived.Test.YtioeaknhcfkfcaaPcL
import Derived.ArgAppend
namespace Go.Proofs.Ytioeaknhcfkfcaa
open Go.RowKit

set_option maxRecDepth 100000 in
theorem app_run2 (w : World) (g B : Nat) (hg : Blk w g (.cells #[] 5)) (hB : B ≤ g) (hBw : B ≤ w.heap.size) (M : Nat) (pa : Option Addr) (pn pc : Nat) (p : List Int) (hp : HoldsB w M (.slice pa pn pc) p) (hlen : p.length ≤ 140737488351232) :
    ∃ v' w', (Builtin.append_ #[39, 39] 39 #[.slice (some ⟨g, 0, none⟩) 0 0, .slice pa pn pc]).run Try.prog w = .ok v' w' ∧ Below w.heap.size w w' ∧ ∃ a' c', v' = .slice a' pn c' ∧ w'.ownsRow B 5 1 v' p.length (bv p) := by
  obtain ⟨i0, hi, hz0, hz1, hz2⟩ := info_parts info5
  obtain ⟨ad, m, cap, e0, hm⟩ := hp.slice
  simp only [Value.slice.injEq] at e0
  obtain ⟨rfl, rfl, rfl⟩ := e0
  by_cases h0 : p = []
  · subst h0
    have hm0 : pn = 0 := by simpa using hm
    subst hm0
    have ho : w.ownsRow B 5 1 (.slice (some ⟨g, 0, none⟩) 0 0) 0 [] := ⟨rfl, .inr ⟨g, 0, #[], rfl, hB, hg, Nat.le_refl _, by unfold maxLen; omega, rfl, rfl⟩⟩
    refine ⟨.slice (some ⟨g, 0, none⟩) 0 0, w, ?_, Below.refl _ _, _, _, rfl, ho⟩
    cases pa with
    | none =>
      obtain ⟨_, _, e, _, _, hc, _⟩ := hp
      simp only [Value.slice.injEq] at e
      have := hc e.1.symm
      rw [e.2.2, this]
      exact run_append_owned_none (w := w) g 39 39 5 i0 1 Try.underlying39 hi _ 0 [] ⟨rfl, .inr ⟨g, 0, #[], rfl, Nat.le_refl _, hg, Nat.le_refl _, by unfold maxLen; omega, rfl, rfl⟩⟩
    | some ad =>
      have hf := run_firstCells_some (P := Try.prog) w i0.size 0 ad 0 pc [] (by simp) (by simp)
      simp [Builtin.append_, run_underlying Try.underlying39, sizeOf, typeInfo, hi, Builtin.lenOf, hf, storeCells]
  · have hpos : 0 < p.length := by cases p with | nil => exact absurd rfl h0 | cons => simp
    subst hm
    cases pa with
    | none =>
      obtain ⟨_, _, e, hle, _, hc, _⟩ := hp
      simp only [Value.slice.injEq] at e
      have := hc e.1.symm
      omega
    | some ad =>
      obtain ⟨v', w', hrun, r1, r2⟩ := run_append_arg_grows (P := Try.prog) w 39 39 5 i0 (.int .u8 0) 1 1 Try.underlying39 hi hz0 hz1 hz2 rfl (by decide) ⟨g, 0, none⟩ 0 0 [] rfl (fun j u h => by simp at h) ad p.length pc (bv p) (by rw [bv_len]) hp.news (by omega) (by unfold maxLen; omega) (by omega)
      rw [Nat.zero_add, List.nil_append] at r1
      have r3 := ownsRow_base r1 hBw
      obtain ⟨hx, hy⟩ := r3
      rcases hy with ⟨e, h0'⟩ | ⟨g', cap', cur', e, hr⟩
      · omega
      · exact ⟨v', w', hrun, ⟨r2.os, r2.tape, r2.output, r2.size, fun k hk => r2.block k hk (by simp)⟩, _, _, e, hx, .inr ⟨g', cap', cur', e, hr⟩⟩
theorem exec_append {o : Oper} {a : Act} {w w' : World} {s x : Operand} {u v v' : Value} (ho : o.op = .call { callee := .builtin .append, args := #[s, x], argTypes := #[39, 39] })
    (hs : a.eval s = v) (hx : a.eval x = u) (hr : (Builtin.append_ #[39, 39] o.type #[v, u]).run Try.prog w = .ok v' w') : (execOp a.eval o).run Try.prog w = .ok (.value v') w' := by
  unfold execOp
  simp only [ho, resolve, invoke, builtin, Sem.run_bind, Sem.run_pure, Result.andThen_ok, List.map_toArray, List.map_cons, List.map_nil, hs, hx, hr]
theorem results_row {P : Program} {fn : Func} {p : Tmp} {ty : TypeId} (h : fn.results = #[.cell p ty]) (tmps : Array Value) (w : World) (g : Nat) (t : TypeId) (cs : Array Value) (fr : Nat × Nat) (d : TypeDesc)
    (hp : tmps.getD p undef = .pointer (some ⟨g, 0, none⟩)) (hg : w.heap[g]? = some (.cells cs t fr))
    (hu : P.underlying ty = some d) (hd : (match d with | .struct _ | .array _ _ => true | _ => false) = true) (hi : (P.info? ty).map (·.size) = some cs.size) :
    (results fn tmps).run P w = .ok (.agg cs) w := by
  have hp' : tmps[p]?.getD undef = .pointer (some ⟨g, 0, none⟩) := by simpa using hp
  simp [results, h, hp', asAddr, run_loadVar_row w g t ty cs fr d hg hu hd hi]
abbrev RZ : Obj := .cells #[.int .u32 0, .int .i64 0, .int .i64 0, .slice none 0 0] 103
def ToPost (p : PV) (tp : List Int) (w : World) (r : Ending) (w' : World) : Prop :=
  ∃ a c, r = .returned (.agg #[.int .u32 p.id, .int .i64 p.at_, .int .i64 p.many, .slice a p.n c]) ∧ w'.ownsRow w.heap.size 5 1 (.slice a p.n c) tp.length (bv tp) ∧ Below w.heap.size w w'
theorem To_holds {w w' : World} {M : Nat} {v : Value} {l : List Int} (hb : Bytes l) (h : w'.ownsRow M 5 1 v l.length (bv l)) : HoldsB w' w'.heap.size v l := HoldsB.ofRow hb h
end Go.Proofs.Ytioeaknhcfkfcaa
