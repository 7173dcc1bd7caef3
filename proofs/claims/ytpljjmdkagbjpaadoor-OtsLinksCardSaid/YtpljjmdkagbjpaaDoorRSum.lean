/-
  The document's Sum.
-/
import Derived.Test.YtpljjmdkagbjpaaDoorPad
import Derived.Test.YtpljjmdkagbjpaaDoorRefB
import Derived.Test.YtpljjmdkagbjpaaDoorRefC
import Derived.Test.YtpljjmdkagbjpaaDoorSumH
namespace Go.Proofs.YtpljjmdkagbjpaaDoor
open Go.RowKit

theorem still_load_mid {P : Program} {ops : Array Oper} {rest : List Oper} {o : Oper} {a : Act} {w : World} {Q : Act → Prop} (hgd : o.guard = none) (ty : TypeId) (x : Operand) (ho : o.op = .load ty x)
    (b off : Nat) (hx : a.eval x = .pointer (some ⟨b, off, none⟩)) (cs : List Value) (d : TypeDesc) (hc : w.rangeAt b off cs)
    (hu : P.underlying ty = some d) (hd : d.isRow = true) (hi : (P.info? ty).map (·.size) = some cs.length)
    (h : wpStill P ops w Q rest (a.put o.dst (.agg cs.toArray))) : wpStill P ops w Q (o :: rest) a := by
  refine wpStill_step fun K hK => ?_
  have hw : Region.wanted o (yielded ops a.tmps) = true := by simp [Region.wanted, hgd]
  rw [if_pos hw]
  unfold Oper.still execOp
  simp only [ho, hx, Instr.loadAt, Instr.sureAddr, Sem.run_bind, Sem.run_pure, Result.andThen_ok, run_loadVar_mid w b off ty cs d hc hu hd hi]
  exact ⟨rfl, hK _ h⟩
theorem Row.range {w : World} {b : Nat} {t : TypeId} {k : IntKind} {l : List Int} (h : Row w b t k l) : w.rangeAt b 0 (kv k l) := by
  intro j v hv
  rw [Blk.cell h, Nat.zero_add, List.getElem?_toArray]
  exact hv
theorem bytes_word (s : St) (i : Nat) (h : i < 8) : s.bytes.take (4 * (i + 1)) = s.bytes.take (4 * i) ++ be32 (s.list.getD i 0) := by
  match i, h with
  | 0, _ => rfl
  | 1, _ => rfl
  | 2, _ => rfl
  | 3, _ => rfl
  | 4, _ => rfl
  | 5, _ => rfl
  | 6, _ => rfl
  | 7, _ => rfl
/-- What stands in the sum's room behind i words, and t bytes of the next one, the last one first. -/
def wst (s : St) (i t : Nat) : List Int := fill 32 (s.bytes.take (4 * i) ++ (List.replicate (4 - t) 0 ++ (be32 (s.list.getD i 0)).drop (4 - t)))
theorem wst_len (s : St) (i t : Nat) (hi : i < 8) (_ht : t ≤ 4) : (wst s i t).length = 32 := by
  unfold wst
  rw [fill_len]
  simp [bytes_len, be32_len]
  omega
theorem wst_zero (s : St) (i : Nat) (hi : i < 8) : wst s i 0 = fill 32 (s.bytes.take (4 * i)) := by
  unfold wst fill
  have h1 : (s.bytes.take (4 * i)).length = 4 * i := by rw [List.length_take, bytes_len]; omega
  have h2 : (be32 (s.list.getD i 0)).drop (4 - 0) = [] := List.drop_of_length_le (by rw [be32_len]; omega)
  rw [h2, List.append_nil, List.append_assoc]
  congr 1
  rw [List.replicate_append_replicate, List.length_append, h1, List.length_replicate]
  congr 1
  omega
theorem wst_full (s : St) (i : Nat) (hi : i < 8) : wst s i 4 = fill 32 (s.bytes.take (4 * (i + 1))) := by
  rw [bytes_word s i hi]
  rfl
theorem set_mid {P M R : List Int} {n c : Nat} (hP : P.length = n) (hc : c < M.length) (v : Int) : ((P ++ M) ++ R).set (n + c) v = (P ++ M.set c v) ++ R := by
  subst hP
  rw [List.set_append_left _ _ (by rw [List.length_append]; omega), List.set_append_right _ _ (by omega), Nat.add_sub_cancel_left]
/-- A word's room behind t bytes. -/
def wt (x : Int) (t : Nat) : List Int := List.replicate (4 - t) 0 ++ (be32 x).drop (4 - t)
theorem wt_len (x : Int) (t : Nat) (_h : t ≤ 4) : (wt x t).length = 4 := by simp [wt, be32_len]
theorem wt_set (x : Int) (t : Nat) (h : t < 4) : (wt x t).set (3 - t) (x / 256 ^ t % 256) = wt x (t + 1) := by
  match t, h with
  | 0, _ => exact (show [0, 0, 0, x / 1 % 256] = [0, 0, 0, x % 256] by rw [Int.ediv_one])
  | 1, _ => rfl
  | 2, _ => rfl
  | 3, _ => rfl
theorem wst_set (s : St) (i t : Nat) (hi : i < 8) (ht : t < 4) : (wst s i t).set (4 * i + (3 - t)) (s.list.getD i 0 / 256 ^ t % 256) = wst s i (t + 1) := by
  have h1 : (s.bytes.take (4 * i)).length = 4 * i := by rw [List.length_take, bytes_len]; omega
  have e : ∀ t, wst s i t = (s.bytes.take (4 * i) ++ wt (s.list.getD i 0) t) ++ List.replicate (32 - (s.bytes.take (4 * i) ++ wt (s.list.getD i 0) t).length) 0 := fun t => rfl
  rw [e t, e (t + 1), set_mid h1 (by rw [wt_len _ _ (by omega)]; omega), wt_set _ _ ht]
  congr 2
  rw [List.length_append, List.length_append, wt_len _ _ (by omega), wt_len _ _ (by omega)]
theorem blocks_pos (n : Nat) : ∃ m, blocks n = m + 1 := by
  unfold blocks
  split
  · exact ⟨_, rfl⟩
  · exact ⟨n / 64 + 1, rfl⟩
theorem sum_range (l : List Int) (i : Nat) (h : i < 8) : 0 ≤ (sumSt l).list.getD i 0 ∧ (sumSt l).list.getD i 0 < 4294967296 := by
  obtain ⟨m, hm⟩ := blocks_pos l.length
  have e : sumSt l = St.add (absorb (pad l) m) (rnds (absorb (pad l) m) (sched (((pad l).drop (64 * m)).take 64) 48) 64) := by
    unfold sumSt
    rw [hm]
    rfl
  rw [e, add_get _ _ _ h]
  omega
end Go.Proofs.YtpljjmdkagbjpaaDoor
