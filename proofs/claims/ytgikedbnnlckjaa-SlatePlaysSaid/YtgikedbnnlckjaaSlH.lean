/-
  slices.Backward over the writes that wait: its iterator's contract.
-/
import Derived.Test.YtgikedbnnlckjaaSlG
import Derived.RangeFuncNested
import Derived.RangeFuncBound
import Derived.RangeFuncCalls
import Derived.RangeFuncLeaves
import Derived.RangeFuncBox
import Derived.Shelf.Abstract
import Derived.OwnWalkIn
import Derived.TacticsInMore
import Derived.LoopNIn
import Derived.LoopIn
namespace Go.Proofs.Ytgikedbnnlckjaa
open Go.RowKit Go.Shelf
attribute [local go_sem] Oper.semAt_some

theorem wpListIn_val {F : Fence} {n : Nat} {P : Program} {ops : Array Oper} {rest : List Oper} {o : Oper} {a : Act} {w w' : World} {Q : Exit → Act → World → Prop} {v : Value} (hg : o.guard = none)
    (hab : o.about P w a.eval = none) (hs : o.semAt F.round a.eval = execOp a.eval o) (he : (execOp a.eval o).run P w = .ok (.value v) w')
    (h : wpListIn F n P ops Q rest (a.put o.dst v) w') : wpListIn F n P ops Q (o :: rest) a w := by
  refine wpListIn_plain hg fun K hK => ?_
  unfold Oper.wpIn
  refine ⟨fun f hf => (by rw [hab] at hf; cases hf), ?_⟩
  rw [hs, he]
  exact hK _ _ h
theorem wpListIn_load_mid {F : Fence} {n : Nat} {P : Program} {ops : Array Oper} {rest : List Oper} {o : Oper} {a : Act} {w : World} {Q : Exit → Act → World → Prop} (hg : o.guard = none) (hs : o.semAt F.round a.eval = execOp a.eval o) (hab : o.about P w a.eval = none) (ty : TypeId) (x : Operand) (ho : o.op = .load ty x)
    (b off : Nat) (hx : a.eval x = .pointer (some ⟨b, off, none⟩)) (cs : List Value) (d : TypeDesc) (hc : w.rangeAt b off cs)
    (hu : P.underlying ty = some d) (hd : d.isRow = true) (hi : (P.info? ty).map (·.size) = some cs.length)
    (h : wpListIn F n P ops Q rest (a.put o.dst (.agg cs.toArray)) w) : wpListIn F n P ops Q (o :: rest) a w :=
  wpListIn_val hg hab hs (exec_load_mid ho hx hc hu hd hi) h

/-- What an iterator over the writes hands on: a place, and a write of 64 bytes. -/
abbrev QE := { x : Nat × (Nat × List Int) // x.2.2.length = 64 }
def encQ (x : QE) : Array Value := #[.int .i64 (x.1.1 : Int), .agg (wcells x.1.2).toArray]
def qAt (q : List (Nat × List Int)) (i : Nat) : Nat × List Int := q.getD i (0, List.replicate 64 0)
theorem qAt_len {q : List (Nat × List Int)} (hq : ∀ x ∈ q, x.2.length = 64) (i : Nat) : (qAt q i).2.length = 64 := by
  unfold qAt
  rw [List.getD_eq_getElem?_getD]
  cases h : q[i]? with
  | none => simp
  | some x => exact hq x (List.mem_of_getElem? h)
theorem qAt_get {q : List (Nat × List Int)} {i : Nat} (hi : i < q.length) : qAt q i = q[i] := by
  unfold qAt
  rw [List.getD_eq_getElem?_getD, List.getElem?_eq_getElem hi]
  rfl
/-- The first k that come. -/
def backL (q : List (Nat × List Int)) (hq : ∀ x ∈ q, x.2.length = 64) (k : Nat) : List QE := (List.range k).map fun j => ⟨(q.length - 1 - j, qAt q (q.length - 1 - j)), qAt_len hq _⟩
theorem backL_succ {q : List (Nat × List Int)} {hq : ∀ x ∈ q, x.2.length = 64} {k m : Nat} (h : k + m + 1 = q.length) : backL q hq (k + 1) = backL q hq k ++ [⟨(m, qAt q m), qAt_len hq _⟩] := by
  have e : q.length - 1 - k = m := by omega
  simp [backL, List.range_succ, e]
theorem backL_len (q : List (Nat × List Int)) (hq : ∀ x ∈ q, x.2.length = 64) (k : Nat) : (backL q hq k).length = k := by simp [backL]
theorem rangeAt_below {n b o : Nat} {cs : List Value} {w w' : World} (h : Below n w w') (hb : b < n) (hr : w.rangeAt b o cs) : w'.rangeAt b o cs := fun j v hv => (h.cell (p := ⟨b, o + j, none⟩) hb).trans (hr j v hv)

set_option maxRecDepth 100000 in
set_option maxHeartbeats 2000000 in
theorem back1_in (n : Nat) (l Bs n₀ qb cap : Nat) (q : List (Nat × List Int)) (hq : ∀ x ∈ q, x.2.length = 64) (hb : qb < n₀) (hs : Bs < n₀) (hlen : q.length ≤ 1000000) (J Jx : List QE → World → Prop)
    (hY : ∀ pre x W, J pre W → pre.length < q.length → YieldAt Fence.wide (n - 1) Try.prog l (encQ x) W fun e W' =>
      (e = .returned (.bool true) ∧ J (pre ++ [x]) W' ∧ Below n₀ W W') ∨ (e = .returned (.bool false) ∧ Jx (pre ++ [x]) W'))
    (W : World) (hBs : W.cell? ⟨Bs, 0, none⟩ = some (.slice (some ⟨qb, 0, none⟩) q.length cap)) (hc : ∀ j, j < q.length → W.rangeAt qb (j * 65) (wcells (qAt q j))) (h0 : J [] W) :
    CallsIn Fence.wide n Try.prog 54 #[.func (.yield l) #[] #[], .pointer (some ⟨Bs, 0, none⟩)] W fun e W' => (∃ v, e = .returned v) ∧
      ((∃ ys, ys = backL q hq q.length ∧ J ys W') ∨ (∃ pre, (∃ k, k ≤ q.length ∧ pre = backL q hq k) ∧ Jx pre W')) := by
  have HC := Kp.mk hc
  have HB := Kp.mk hBs
  have HJ := Kp.mk h0
  have HY := Kp.mk hY
  have HQ := Kp.mk hq
  obtain ⟨len, hl⟩ : ∃ len, len = q.length := ⟨_, rfl⟩
  have HL := Kp.mk hl
  rw [← hl] at hlen hBs
  clear hc h0 hY hl
  refine callsIn_of_wp Try.func54 rfl trivial ?_ rfl
  simp only [Try.ntmps54, List.size_toArray, List.length_cons, List.length_nil, Nat.reduceAdd, Nat.reduceSub, Array.replicate_succ, Array.replicate_zero, List.push_toArray, List.append_toArray, List.nil_append, List.cons_append]
  gi_wp2
  gi_loopw [3] (fun i wr => ∃ k : Nat, ((∃ m : Nat, k + m + 1 = len ∧ i = .int .i64 m) ∨ (k = len ∧ i = .int .i64 (-1))) ∧ J (backL q HQ.out k) wr ∧ Below n₀ W wr)
    (fun i _ => (intOf i + 1).toNat)
  case atStart =>
    refine ⟨0, ?_, HJ.out, Below.refl _ _⟩
    cases len with
    | zero => exact .inr ⟨rfl, by simp⟩
    | succ m => exact .inl ⟨m, by omega, by go_num⟩
  case round =>
    obtain ⟨k, hi, hJs, hnx⟩ := hrel
    have HN := Kp.mk hnx
    have HJs := Kp.mk hJs
    have hcb : wr.cell? ⟨Bs, 0, none⟩ = some (.slice (some ⟨qb, 0, none⟩) len cap) := by rw [HL.out]; exact (hnx.cell (p := ⟨Bs, 0, none⟩) hs).trans HB.out
    clear hnx hJs
    rcases hi with ⟨m, hm, rfl⟩ | ⟨hk, rfl⟩
    · have HM : Kp (k + m + 1 = q.length) := ⟨by rw [hm]; exact HL.out⟩
      have HR : Kp (wr.rangeAt qb (m * 65) (wcells (qAt q m))) := ⟨rangeAt_below HN.out hb (HC.out m (by have := HM.out; omega))⟩
      have HW : Kp ((wcells (qAt q m)).length = 65) := ⟨by have := wcells_len (k := (qAt q m).1) (qAt_len HQ.out m); simpa using this⟩
      obtain ⟨fn, tmps, assign, body, hy, hR⟩ := HY.out _ ⟨(m, qAt q m), qAt_len HQ.out m⟩ wr HJs.out (by rw [backL_len]; have := HM.out; omega)
      unfold encQ at hy
      dsimp only at hy
      have HRn := Kp.mk hR
      have hml : (m : Int) < (len : Int) := by omega
      clear hR
      gi_wp2_with (refine wpListIn_load_mid rfl rfl rfl 82 (.tmp 15) rfl qb (m * 65) rfl (wcells (qAt q m)) _ HR.out Try.underlying82 rfl (by rw [HW.out]; exact info82s) ?_)
      refine ⟨(fun h => by cases h), HRn.out.mono ?_⟩
      rintro e W3 (⟨rfl, hJ3, hk3⟩ | ⟨rfl, hJx3⟩)
      · have HJ3 := Kp.mk hJ3
        have HK3 := Kp.mk hk3
        clear hJ3 hk3
        gi_wp2
        go_roundw
        case rel =>
          refine ⟨k + 1, ?_, by rw [backL_succ HM.out]; exact HJ3.out, HN.out.trans HK3.out⟩
          cases m with
          | zero => exact .inr ⟨by omega, by simp⟩
          | succ m => exact .inl ⟨m, by omega, by go_num⟩
        case measure => simp [intOf] <;> omega
      · have HJ3 := Kp.mk hJx3
        clear hJx3
        gi_wp2
        refine bodyPost_ret (results_none rfl _ _ _) rfl ?_
        exact ⟨⟨_, rfl⟩, .inr ⟨_, ⟨k + 1, by have := HM.out; omega, rfl⟩, by rw [backL_succ HM.out]; exact HJ3.out⟩⟩
    · have HK := Kp.mk hk
      clear hk
      gi_wp2
      go_end0
      exact ⟨⟨_, rfl⟩, .inl ⟨_, rfl, by rw [← HL.out, ← HK.out]; exact HJs.out⟩⟩
set_option maxRecDepth 100000 in
set_option maxHeartbeats 1000000 in
/-- .. of no writes: no round. -/
theorem back1_nil (n : Nat) (l Bs c : Nat) (a : Option Addr) (J : List QE → World → Prop) (W : World) (hBs : W.cell? ⟨Bs, 0, none⟩ = some (.slice a 0 c)) (h0 : J [] W) :
    CallsIn Fence.wide n Try.prog 54 #[.func (.yield l) #[] #[], .pointer (some ⟨Bs, 0, none⟩)] W fun e W' => (∃ v, e = .returned v) ∧ J [] W' := by
  have HJ := Kp.mk h0
  clear h0
  refine callsIn_of_wp Try.func54 rfl trivial ?_ rfl
  simp only [Try.ntmps54, List.size_toArray, List.length_cons, List.length_nil, Nat.reduceAdd, Nat.reduceSub, Array.replicate_succ, Array.replicate_zero, List.push_toArray, List.append_toArray, List.nil_append, List.cons_append]
  gi_wp2
  gi_loopw [3] (fun i wr => i = .int .i64 (-1) ∧ J [] wr) (fun _ _ => 0)
  case atStart => exact ⟨rfl, HJ.out⟩
  case round =>
    obtain ⟨rfl, hJs⟩ := hrel
    have HJs := Kp.mk hJs
    clear hJs
    gi_wp2
    go_end0
    exact ⟨⟨_, rfl⟩, HJs.out⟩
theorem backward_any (a : Option Addr) (len cap : Nat) (w : World) : Calls Try.prog 40 #[.slice a len cap] w fun r w' => r = .returned (.func (.func 54) #[] #[.pointer (some ⟨w.heap.size, 0, none⟩)]) ∧ w' = w.alloc (.cells #[.slice a len cap] 70) := by
  go_enter Try.func40, Try.ntmps40
  go_wp2_with fail
  go_ret
  exact ⟨rfl, rfl⟩
/-- slices.Backward(queue) hands on all writes, the last one first; or some of these. -/
theorem back_stops (n : Nat) (Bs : Nat) (v : Value) (q : List (Nat × List Int)) (hq : ∀ x ∈ q, x.2.length = 64) (hlen : q.length ≤ 1000000) (w : World) (hB : Bs < w.heap.size)
    (hc : w.cell? ⟨Bs, 0, none⟩ = some v)
    (hv : (∃ a c, v = .slice a 0 c ∧ q = []) ∨ ∃ qb cap, v = .slice (some ⟨qb, 0, none⟩) q.length cap ∧ qb < w.heap.size ∧ ∀ j, j < q.length → w.rangeAt qb (j * 65) (wcells (qAt q j))) :
    SeqStopsK Fence.wide n Try.prog 54 #[.pointer (some ⟨Bs, 0, none⟩)] encQ (Below w.heap.size) (fun ys => ys = backL q hq q.length) (fun pre => ∃ k, k ≤ q.length ∧ pre = backL q hq k) q.length w := fun l J Jx W hW _ _ hY h0 => by
  have hc' := (hW.cell (p := ⟨Bs, 0, none⟩) hB).trans hc
  rcases hv with ⟨a, c, rfl, rfl⟩ | ⟨qb, cap, rfl, hb, hr⟩
  · exact (back1_nil n l Bs c a J W hc' h0).mono fun e W' ⟨he, hj⟩ => ⟨he, .inl ⟨_, rfl, hj⟩⟩
  · exact back1_in n l Bs w.heap.size qb cap q hq hb hB hlen J Jx hY W hc' (fun j hj => rangeAt_below hW hb (hr j hj)) h0
end Go.Proofs.Ytgikedbnnlckjaa
