/-
  layer 14: the two devices stand alike.
-/
import Derived.Test.YtgikedbnnlckjaaRsE
namespace Go.Proofs.Ytgikedbnnlckjaa
open Go.RowKit

structure Rel (s : SlS) (r : RlS) : Prop where
  n : r.n = s.n
  q : r.q = s.q
  dn : r.dn = s.dn
  st : r.st = s.st
  fu : r.fu = s.fu ∨ (r.fu < 0 ∧ s.fu < 0)
  sure : ∀ k : Nat, k < s.n → ofL r.sure k z64 = (s.ls.drop (k * 64)).take 64
theorem Rel.fz {s : SlS} {r : RlS} (h : Rel s r) : r.fu = 0 ↔ s.fu = 0 := by have := h.fu; omega
theorem Rel.has {s : SlS} {r : RlS} (h : Rel s r) (a : Int) : rHas r a = hasE s a := by unfold rHas hasE; rw [h.dn, h.n]
theorem ofL_rev (k : Nat) (z : List Int) : ∀ l : List (Nat × List Int), ofL l.reverse k z = match l.find? (fun x => x.1 == k) with | some x => x.2 | none => z
  | [] => rfl
  | x :: r => by
    rw [List.reverse_cons, ofL_snoc, ofL_rev k z r]
    by_cases h : x.1 = k
    · rw [if_pos (by omega), List.find?_cons_of_pos (by simpa using h)]
    · rw [if_neg (by omega), List.find?_cons_of_neg (by simpa using h)]
theorem Rel.read {s : SlS} {r : RlS} (h : Rel s r) (a : Int) : rReadZ r a = readZ s a := by
  unfold rReadZ readZ
  rw [h.has]
  split
  · rename_i he
    obtain ⟨-, h0, h1⟩ := hasE_zero he
    obtain ⟨k, rfl⟩ : ∃ k : Nat, a = k := ⟨a.toNat, by omega⟩
    rw [h.sure k (by omega), h.q]
    have := ofL_rev k ((s.ls.drop (k * 64)).take 64) s.q.reverse
    rw [List.reverse_reverse] at this
    rw [this]
    rfl
  · rfl
theorem Rel.step {s : SlS} {r : RlS} (h : Rel s r) : Rel (stepS s) (rStep r) := by
  have hf := h.fu
  unfold stepS rStep
  by_cases h0 : s.fu = 0
  · rw [if_pos h0, if_pos (h.fz.2 h0)]
    exact ⟨h.n, h.q, rfl, h.st, h.fu, h.sure⟩
  · rw [if_neg h0, if_neg (fun e => h0 (h.fz.1 e))]
    refine ⟨h.n, h.q, h.dn, by show r.st + 1 = s.st + 1; rw [h.st], ?_, h.sure⟩
    show (if 0 < r.fu then r.fu - 1 else r.fu) = (if 0 < s.fu then s.fu - 1 else s.fu) ∨ _
    rcases hf with e | ⟨e1, e2⟩
    · left; rw [e]
    · right
      show (if 0 < r.fu then r.fu - 1 else r.fu) < 0 ∧ (if 0 < s.fu then s.fu - 1 else s.fu) < 0
      rw [if_neg (by omega), if_neg (by omega)]
      exact ⟨e1, e2⟩
theorem Rel.write {s : SlS} {r : RlS} (h : Rel s r) (a : Int) (z : List Int) : rWriteE r a = writeE s a ∧ Rel (writeS s a z) (rWriteS r a z) := by
  unfold rWriteE writeE rWriteS writeS stepE
  rw [h.has]
  by_cases h0 : hasE s a = 0
  · rw [if_pos h0, if_pos h0, if_pos h0, if_pos h0]
    by_cases hf : s.fu = 0
    · rw [if_pos (h.fz.2 hf), if_pos hf, if_pos (h.fz.2 hf), if_neg (by decide)]
      exact ⟨rfl, h.step⟩
    · rw [if_neg (fun e => hf (h.fz.1 e)), if_neg hf, if_neg (fun e => hf (h.fz.1 e)), if_pos rfl]
      have hs := h.step
      exact ⟨rfl, ⟨hs.n, by show r.q ++ _ = s.q ++ _; rw [h.q], hs.dn, hs.st, hs.fu, hs.sure⟩⟩
  · rw [if_neg h0, if_neg h0, if_neg h0, if_neg h0]
    exact ⟨rfl, h⟩
theorem ofL_flt (k : Nat) (a : Nat) (z : List Int) (h : a ≠ k) : ∀ l : List (Nat × List Int), ∀ z, ofL (flt k l) (a : Nat) z = ofL l (a : Nat) z
  | [], _ => rfl
  | x :: r, z => by
    have e : ofL (x :: r) (a : Nat) z = ofL r (a : Nat) (if (x.1 : Int) = a then x.2 else z) := rfl
    rw [e]
    by_cases hx : x.1 = k
    · have e2 : flt k (x :: r) = flt k r := by unfold flt; rw [List.filter_cons_of_neg (by simp [hx])]
      rw [e2, if_neg (by omega), ofL_flt k a z h r]
    · have e2 : flt k (x :: r) = x :: flt k r := by unfold flt; rw [List.filter_cons_of_pos (by simp [hx])]
      rw [e2]
      show ofL (flt k r) (a : Nat) (if (x.1 : Int) = a then x.2 else z) = _
      rw [ofL_flt k a z h r]
theorem ofL_rput (l : List (Nat × List Int)) (x : Nat × List Int) (a : Nat) (z : List Int) : ofL (rputL l x) (a : Nat) z = if x.1 = a then x.2 else ofL l (a : Nat) z := by
  unfold rputL
  rw [ofL_snoc]
  by_cases h : x.1 = a
  · rw [if_pos (by omega), if_pos h]
  · rw [if_neg (by omega), if_neg h, ofL_flt _ _ z (by omega)]
theorem splice_at {α : Type} (l z : List α) (o i : Nat) (h : o + z.length ≤ l.length) : (splice l o z)[i]? = if i < o then l[i]? else if i < o + z.length then z[i - o]? else l[i]? := by
  unfold splice
  have ht : (l.take o).length = o := by rw [List.length_take]; omega
  by_cases h1 : i < o
  · rw [if_pos h1, List.getElem?_append_left (by omega), List.getElem?_take, if_pos h1]
  · rw [if_neg h1, List.getElem?_append_right (by omega), ht]
    by_cases h2 : i < o + z.length
    · rw [if_pos h2, List.getElem?_append_left (by omega)]
    · rw [if_neg h2, List.getElem?_append_right (by omega), List.getElem?_drop]
      congr 1
      omega
/-- A sector of sectors of which a beginning of one was turned. -/
theorem sec_splice {ls z : List Int} {n k a : Nat} (hl : ls.length = n * 64) (hk : k < n) (ha : a < n) (hz : z.length ≤ 64) : ((splice ls (k * 64) z).drop (a * 64)).take 64 = if k = a then splice ((ls.drop (a * 64)).take 64) 0 z else (ls.drop (a * 64)).take 64 := by
  have hfit : k * 64 + z.length ≤ ls.length := by rw [hl]; omega
  have hsl : ((ls.drop (a * 64)).take 64).length = 64 := by rw [List.length_take, List.length_drop, hl]; omega
  apply List.ext_getElem?
  intro i
  rw [List.getElem?_take]
  by_cases hi : i < 64
  · rw [if_pos hi, List.getElem?_drop, splice_at _ _ _ _ hfit]
    by_cases hka : k = a
    · subst hka
      rw [if_pos rfl, splice_at _ _ _ _ (by omega), if_neg (show ¬ k * 64 + i < k * 64 by omega), if_neg (show ¬ i < 0 by omega)]
      by_cases hz2 : i < z.length
      · rw [if_pos (show k * 64 + i < k * 64 + z.length by omega), if_pos (show i < 0 + z.length by omega)]
        congr 1
        omega
      · rw [if_neg (show ¬ k * 64 + i < k * 64 + z.length by omega), if_neg (show ¬ i < 0 + z.length by omega), List.getElem?_take, if_pos hi, List.getElem?_drop]
    · rw [if_neg hka, List.getElem?_take, if_pos hi, List.getElem?_drop]
      by_cases hlt : a < k
      · rw [if_pos (by omega)]
      · rw [if_neg (by omega), if_neg (by omega)]
  · rw [if_neg hi]
    split
    · rw [List.getElem?_eq_none]
      rw [length_splice _ _ _ (by omega)]
      omega
    · rw [List.getElem?_eq_none (by omega)]
theorem splice_whole {l z : List Int} (h : z.length = l.length) : splice l 0 z = z := by
  unfold splice
  simp only [List.take_zero, List.nil_append, Nat.zero_add]
  rw [List.drop_eq_nil_of_le (by omega), List.append_nil]
/-- What lasts on both, behind some writes. -/
theorem rel_settle {n : Nat} : ∀ (q : List (Nat × List Int)) (ls : List Int) (sure : List (Nat × List Int)), ls.length = n * 64 → (∀ x ∈ q, x.1 < n ∧ x.2.length = 64) → (∀ k : Nat, k < n → ofL sure k z64 = (ls.drop (k * 64)).take 64) →
    (settleL ls q).length = n * 64 ∧ ∀ k : Nat, k < n → ofL (rsettle sure q) k z64 = ((settleL ls q).drop (k * 64)).take 64
  | [], ls, sure, hl, _, h => ⟨hl, h⟩
  | x :: r, ls, sure, hl, hq, h => by
    obtain ⟨x1, x2⟩ := hq x (by simp)
    have e1 : settleL ls (x :: r) = settleL (splice ls (x.1 * 64) x.2) r := rfl
    have e2 : rsettle sure (x :: r) = rsettle (rputL sure x) r := rfl
    rw [e1, e2]
    refine rel_settle r _ _ (by rw [length_splice _ _ _ (by omega)]; exact hl) (fun y hy => hq y (by simp [hy])) fun k hk => ?_
    rw [ofL_rput, sec_splice hl x1 hk (by omega)]
    by_cases hx : x.1 = k
    · rw [if_pos hx, if_pos hx, splice_whole (by rw [List.length_take, List.length_drop, hl]; omega)]
    · rw [if_neg hx, if_neg hx, h k hk]
theorem Rel.flush {s : SlS} {r : RlS} (h : Rel s r) (hk : s.Ok) : rFlushE r = flushE s ∧ Rel (flushS s) (rFlushS r) := by
  unfold rFlushE flushE rFlushS flushS stepE
  rw [h.dn]
  cases s.dn with
  | true => exact ⟨rfl, h⟩
  | false =>
    have hs := h.step
    by_cases hf : s.fu = 0
    · simp only [if_pos (h.fz.2 hf), if_pos hf, Bool.false_eq_true, if_false]
      rw [if_neg (by decide)]
      exact ⟨by trivial, hs⟩
    · have hrf : ¬ r.fu = 0 := fun e => hf (h.fz.1 e)
      simp only [if_neg hrf, if_neg hf, Bool.false_eq_true, if_false, if_true]
      refine ⟨by trivial, ⟨hs.n, rfl, hs.dn, hs.st, hs.fu, ?_⟩⟩
      intro k hkn
      have hkn' : k < s.n := by have e := (stepS_q s).2.2; have : k < (stepS s).n := hkn; rw [e] at this; exact this
      show ofL (rsettle r.sure r.q) k z64 = ((settleL s.ls s.q).drop (k * 64)).take 64
      rw [h.q]
      exact (rel_settle s.q s.ls r.sure hk.ll (fun x hx => ⟨(hk.qq x hx).1, (hk.qq x hx).2.1⟩) h.sure).2 k hkn'
theorem Rel.crash {s : SlS} {r : RlS} (h : Rel s r) (hk : s.Ok) (n b : Int) : Rel (crashS s n b) (rCrashS r n b) := by
  unfold crashS rCrashS
  rw [h.q]
  refine ⟨h.n, rfl, rfl, h.st, .inl rfl, fun k hkn => ?_⟩
  have hkn' : k < s.n := hkn
  show ofL (rcrashL r.sure s.q (upN n s.q.length) (upN b 64)) k z64 = ((crashL s.ls s.q (upN n s.q.length) (upN b 64)).drop (k * 64)).take 64
  generalize upN n s.q.length = kk
  have hu : upN b 64 ≤ 64 := upN_le _ _
  generalize upN b 64 = u at hu ⊢
  obtain ⟨l1, l2⟩ := rel_settle (s.q.take kk) s.ls r.sure hk.ll (fun x hx => ⟨(hk.qq x (List.mem_of_mem_take hx)).1, (hk.qq x (List.mem_of_mem_take hx)).2.1⟩) h.sure
  unfold rcrashL crashL
  cases hq : s.q[kk]? with
  | none => exact l2 k hkn'
  | some x =>
    have hm := hk.qq x (List.mem_of_getElem? hq)
    simp only
    rw [ofL_rput, sec_splice l1 hm.1 hkn' (by rw [List.length_take]; omega)]
    by_cases hx : x.1 = k
    · rw [if_pos hx, if_pos hx]
      show splice (ofL (rsettle r.sure (s.q.take kk)) (x.1 : Nat) z64) 0 (x.2.take u) = _
      rw [hx, l2 k hkn']
    · rw [if_neg hx, if_neg hx, l2 k hkn']
theorem Rel.fuse {s : SlS} {r : RlS} (h : Rel s r) (hd : s.dn = false) (n : Int) : Rel (fuseS s n) { r with fu := max n (-1) } := by
  have e : fuseS s n = { s with fu := n } := by unfold fuseS; rw [if_neg (by rw [hd]; decide)]
  rw [e]
  refine ⟨h.n, h.q, h.dn, h.st, ?_, h.sure⟩
  show max n (-1) = n ∨ (max n (-1) < 0 ∧ n < 0)
  omega
theorem Rel.new (n : Nat) : Rel (newS n) (rNew n) := ⟨rfl, rfl, rfl, rfl, .inl rfl, fun k hk => by
  show z64 = ((List.replicate (n * 64) (0 : Int)).drop (k * 64)).take 64
  have hk' : k < n := hk
  rw [List.drop_replicate, List.take_replicate, Nat.min_eq_left (by omega)]
  rfl⟩
end Go.Proofs.Ytgikedbnnlckjaa
