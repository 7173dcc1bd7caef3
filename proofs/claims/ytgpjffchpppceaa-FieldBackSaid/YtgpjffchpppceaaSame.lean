/-
  The contract of SameSums: of one row of bytes it says so.
-/
import Derived.Test.YtgpjffchpppceaaFrom
namespace Go.Proofs.Ytgpjffchpppceaa
open Go.RowKit

theorem exec_load_mid {P : Program} {o : Oper} {a : Act} {w : World} {ty : TypeId} {x : Operand} {b off : Nat} {cs : List Value} {d : TypeDesc} (ho : o.op = .load ty x) (hx : a.eval x = .pointer (some ⟨b, off, none⟩)) (hc : w.rangeAt b off cs)
    (hu : P.underlying ty = some d) (hd : d.isRow = true) (hi : (P.info? ty).map (·.size) = some cs.length) : (execOp a.eval o).run P w = .ok (.value (.agg cs.toArray)) w := by
  unfold execOp
  simp only [ho, hx, Instr.loadAt, Instr.sureAddr, Sem.run_bind, Sem.run_pure, Result.andThen_ok, run_loadVar_mid w b off ty cs d hc hu hd hi]

set_option maxHeartbeats 1600000 in
theorem sames_any (va vb : Value) (n : Nat) (l : List Int) (w : World) (ha : HoldsS w va n l) (hb : HoldsS w vb n l) (hn : n ≤ 1000000) :
    Calls Try.prog 22 #[va, vb] w fun r w' => r = .returned (.bool true) ∧ Below w.heap.size w w' := by
  have HA := Lib.hid ha
  have HB := Lib.hid hb
  obtain ⟨a, cap, rfl, hl, -, hby, -⟩ := ha
  obtain ⟨a2, cap2, rfl, -⟩ := hb
  have HL := Lib.hid hl
  have HBY := Lib.hid hby
  clear hl hby
  go_enter Try.func22, Try.ntmps22
  go_wp2_with fail
  go_loopw [5] (fun c wr => ∃ i : Nat, i ≤ n ∧ c = .int .i64 i ∧ Below w.heap.size w wr) (fun c _ => n - (intOf c).toNat)
  case atStart => exact ⟨0, by omega, rfl, Below.refl _ _⟩
  case round =>
    obtain ⟨i, hi', rfl, hE⟩ := hrel
    by_cases hlt : i < n
    · obtain ⟨b, off, rfl, hbl, hrange⟩ := (HA.out.keep hE).range hlt
      obtain ⟨b2, off2, rfl, hbl2, hrange2⟩ := (HB.out.keep hE).range hlt
      have hlp := sumAt_len HL.out hlt
      have heq := eqIn42 (sumAt_bytes HBY.out i) hlp
      generalize sumAt l i = p at hrange hrange2 hlp heq
      have HCL := Lib.hid (cellsL42 hlp)
      have HE := Lib.hid hE
      have HR := Lib.hid (And.intro hrange hrange2)
      have HBL := Lib.hid (And.intro hbl hbl2)
      clear hrange hrange2 hE hbl hbl2
      go_wp2_with fail
      refine wp_region_flow (fun w' => Below w.heap.size w w' ∧ wr.heap.size ≤ w'.heap.size ∧ w'.rangeAt b (off + i * 16) (bv p) ∧ w'.rangeAt b2 (off2 + i * 16) (bv p)) (by kernel_rfl) (by kernel_rfl) (by kernel_rfl)
        (fun w1 w2 h hb => ⟨h.1.trans (hb.mono h.1.size), Nat.le_trans h.2.1 hb.size, fun j v hv => (hb.cell (p := ⟨b, off + i * 16 + j, none⟩) (by have := HBL.out.1; have := h.2.1; show b < _; omega)).trans (h.2.2.1 j v hv), fun j v hv => (hb.cell (p := ⟨b2, off2 + i * 16 + j, none⟩) (by have := HBL.out.2; have := h.2.1; show b2 < _; omega)).trans (h.2.2.2 j v hv)⟩)
        ⟨HE.out.drew, Nat.le_refl _, HR.out.1, HR.out.2⟩ ?_
      repeat (first
        | (apply Flow.value
           · rfl
           · (intro wx hS; exact exec_load_mid rfl rfl hS.2.2.1 Try.underlying42 rfl HCL.out)
           try simp only [Act.put, List.setIfInBounds_toArray, List.set_cons_zero, List.set_cons_succ])
        | (apply Flow.value
           · rfl
           · (intro wx hS; exact exec_load_mid rfl rfl hS.2.2.2 Try.underlying42 rfl HCL.out)
           try simp only [Act.put, List.setIfInBounds_toArray, List.set_cons_zero, List.set_cons_succ])
        | (apply Flow.value
           · rfl
           · (intro wx hS; clear hS; go_simp; with_reducible rfl)
           try simp only [Act.put, List.setIfInBounds_toArray, List.set_cons_zero, List.set_cons_succ]))
      refine Flow.done ?_
      intro w4 hS
      have HE4 := Lib.hid hS.1
      clear hS heq
      go_wp2_with fail
      exact ⟨⟨i + 1, by omega, by go_num, HE4.out⟩, by simp [intOf]; omega⟩
    · obtain rfl : i = n := by omega
      have HE := Lib.hid hE
      clear hE
      go_wp2_with fail
      go_ret
      exact ⟨rfl, HE.out⟩
end Go.Proofs.Ytgpjffchpppceaa
