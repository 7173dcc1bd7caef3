/-
  layer 14: the document's Flush, Crash.
-/
import Derived.Test.YtgikedbnnlckjaaRsD
namespace Go.Proofs.Ytgikedbnnlckjaa
open Go.RowKit

def rsettle (s l : List (Nat × List Int)) : List (Nat × List Int) := l.foldl rputL s
theorem rsettle_snoc (s l : List (Nat × List Int)) (x : Nat × List Int) : rsettle s (l ++ [x]) = rputL (rsettle s l) x := by simp [rsettle]
theorem rputL_len (s : List (Nat × List Int)) (x : Nat × List Int) : (rputL s x).length ≤ s.length + 1 := by
  unfold rputL
  rw [List.length_append, List.length_singleton]
  have := flt_len x.1 s
  omega
theorem rsettle_len : ∀ (l s : List (Nat × List Int)), (rsettle s l).length ≤ s.length + l.length
  | [], s => by simp [rsettle]
  | x :: r, s => by
    have h1 := rsettle_len r (rputL s x)
    have h2 := rputL_len s x
    have e : rsettle s (x :: r) = rsettle (rputL s x) r := rfl
    rw [e, List.length_cons]
    omega
theorem rsettle_take {s q : List (Nat × List Int)} {j : Nat} (hj : j < q.length) : rsettle s (q.take (j + 1)) = rputL (rsettle s (q.take j)) q[j] := by
  rw [List.take_add_one, List.getElem?_eq_getElem hj]
  simp only [Option.toList_some]
  rw [rsettle_snoc]
def RPost (M : Nat) (v1 v2 : Value) (x : Int) (r' : RlS) (w : World) (e : Ending) (w' : World) : Prop := e = .returned (.int .i64 x) ∧ ∃ v1' v2', RStep M v1 v2 v1' v2' r' w w'
def RPostU (M : Nat) (v1 v2 : Value) (r' : RlS) (w : World) (e : Ending) (w' : World) : Prop := (∃ u, e = .returned u) ∧ ∃ v1' v2', RStep M v1 v2 v1' v2' r' w w'
theorem RStep.nilq {M : Nat} {v1 v2 : Value} {r : RlS} {w : World} (h : RlIs w M v1 v2 r) : RStep M v1 v2 v1 (.slice none 0 0) { r with q := [] } w (w.setCell ⟨M, 2, none⟩ (.slice none 0 0)) := by
  have hT : Turn M (rObj v1 (.slice none 0 0) { r with q := [] }) w (w.setCell ⟨M, 2, none⟩ (.slice none 0 0)) := ((Turn.same h.b).set 2 _).as rfl
  exact ⟨hT.os, hT.tape, hT.output, hT.size, ⟨hT.blk, ownsRow_turn h.o1 hT (by omega), World.ownsRow_nil _ _ _ _, (fun k _ e => by cases e), ⟨h.k.n1, (fun x hx => by cases hx), h.k.s1, h.k.st, h.k.fr, by simp, h.k.sl⟩⟩, fun k hk n1 _ _ => hT.other k hk n1, fun k hk => by rcases hk with e | e; exact .inl (.inl e); cases e⟩
theorem RStep.ends {M : Nat} {v1 v2 : Value} {r : RlS} {w : World} (h : RlIs w M v1 v2 r) : RStep M v1 v2 v1 (.slice none 0 0) { r with q := [], fu := -1, dn := false } w (((w.setCell ⟨M, 2, none⟩ (.slice none 0 0)).setCell ⟨M, 3, none⟩ (.int .i64 (-1))).setCell ⟨M, 4, none⟩ (.bool false)) := by
  have hT : Turn M (rObj v1 (.slice none 0 0) { r with q := [], fu := -1, dn := false }) w (((w.setCell ⟨M, 2, none⟩ (.slice none 0 0)).setCell ⟨M, 3, none⟩ (.int .i64 (-1))).setCell ⟨M, 4, none⟩ (.bool false)) := ((((Turn.same h.b).set 2 _).set 3 _).set 4 _).as rfl
  exact ⟨hT.os, hT.tape, hT.output, hT.size, ⟨hT.blk, ownsRow_turn h.o1 hT (by omega), World.ownsRow_nil _ _ _ _, (fun k _ e => by cases e), ⟨h.k.n1, (fun x hx => by cases hx), h.k.s1, h.k.st, (show I64 (-1) by unfold I64; omega), by simp, h.k.sl⟩⟩, fun k hk n1 _ _ => hT.other k hk n1, fun k hk => by rcases hk with e | e; exact .inl (.inl e); cases e⟩
theorem wcells_midT {w : World} {C k : Nat} {t : TypeId} {z : List Int} (h : Blk w C (.cells (wcells (k, z)).toArray t)) : w.rangeAt C 1 (kv .u8 z) := fun j v hv => by
  rw [h.cell (1 + j), List.getElem?_toArray, Nat.add_comm]
  exact hv
theorem RStep.turnNew {M D : Nat} {v1 v2 v1' v2' : Value} {r' : RlS} {w w1 w2 : World} {l : List Int} {o : Obj} (h : RStep M v1 v2 v1' v2' r' w w1) (hD : w.heap.size ≤ D) (hr : Row w1 D 30 .u8 l) (hT : Turn D o w1 w2) : RStep M v1 v2 v1' v2' r' w w2 := by
  have hi := h.is
  have hDM : M ≠ D := cells_ne (show w1.heap[M]? = _ from hi.b) (show w1.heap[D]? = _ from hr) (by decide)
  refine ⟨hT.os.trans h.os, hT.tape.trans h.tape, hT.output.trans h.output, Nat.le_trans h.size hT.size, ⟨hT.keep hi.b hDM, ownsRow_same hi.o1 (fun q hq => ?_), ownsRow_same hi.o2 (fun q hq => ?_), hi.ne, hi.k⟩, fun q hq n1 n2 n3 => ?_, h.own⟩
  · obtain ⟨cur, e⟩ := ownsRow_type hi.o1 hq
    exact hT.other q (Array.getElem?_eq_some_iff.1 e).1 (cells_ne e (show w1.heap[D]? = _ from hr) (by decide))
  · obtain ⟨cur, e⟩ := ownsRow_type hi.o2 hq
    exact hT.other q (Array.getElem?_eq_some_iff.1 e).1 (cells_ne e (show w1.heap[D]? = _ from hr) (by decide))
  · exact (hT.other q (Nat.lt_of_lt_of_le hq h.size) (by omega)).trans (h.other q hq n1 n2 n3)
def rFlushE (r : RlS) : Int := if r.dn then 5 else if r.fu = 0 then 5 else 0
def rFlushS (r : RlS) : RlS := if r.dn then r else if r.fu = 0 then rStep r else { rStep r with sure := rsettle r.sure r.q, q := [] }
set_option maxRecDepth 100000 in
set_option maxHeartbeats 4000000 in
theorem rflush_any (M : Nat) (v1 v2 : Value) (r : RlS) (w : World) (h : RlIs w M v1 v2 r) (hst : r.st + 1 ≤ 1000000) (hq : r.sure.length + r.q.length + 1 ≤ 1000000) :
    Calls Try.prog 37 #[rP M] w (RPost M v1 v2 (rFlushE r) (rFlushS r) w) := by
  have H := Kp.mk h
  have HST := Kp.mk hst
  have HQ0 := Kp.mk hq
  have c4 := h.cells.1.2.2.2.2.1
  clear hst hq h
  cases hd : r.dn with
  | true =>
    have HE : Kp ((5 : Int) = rFlushE r ∧ rFlushS r = r) := ⟨by unfold rFlushE rFlushS; simp [hd]⟩
    rw [hd] at c4
    clear hd
    go_enter Try.func37, Try.ntmps37
    go_wp2_with fail
    go_ret
    exact ⟨reti HE.out.1, v1, v2, by rw [HE.out.2]; exact RStep.same H.out (Below.refl _ _)⟩
  | false =>
    have HE : Kp (rFlushE r = (if r.fu = 0 then 5 else 0) ∧ rFlushS r = (if r.fu = 0 then rStep r else { rStep r with sure := rsettle r.sure r.q, q := [] })) := ⟨by unfold rFlushE rFlushS; simp [hd]⟩
    rw [hd] at c4
    clear hd
    go_enter Try.func37, Try.ntmps37
    go_wp2_with fail
    refine (power_any M v1 v2 r _ H.out HST.out).mono ?_
    rintro e w2 ⟨rfl, hs⟩
    have HS2 := Kp.mk hs
    clear hs c4
    by_cases hfu : r.fu = 0
    · have HW : Kp ((5 : Int) = rFlushE r ∧ rFlushS r = rStep r) := ⟨by rw [HE.out.1, HE.out.2, if_pos hfu, if_pos hfu]; exact ⟨rfl, rfl⟩⟩
      rw [show (r.fu != 0) = false by simp [hfu]]
      clear hfu
      go_wp2_with fail
      go_ret
      exact ⟨reti HW.out.1, v1, v2, by rw [HW.out.2]; exact HS2.out⟩
    · have HW : Kp ((0 : Int) = rFlushE r ∧ rFlushS r = { rStep r with sure := rsettle (rStep r).sure (rStep r).q, q := [] }) := ⟨by rw [HE.out.1, HE.out.2, if_neg hfu, if_neg hfu, (rStep_same r).1, (rStep_same r).2.1]; exact ⟨rfl, rfl⟩⟩
      have HQ1 : Kp ((rStep r).sure.length + (rStep r).q.length + 1 ≤ 1000000) := ⟨by rw [(rStep_same r).1, (rStep_same r).2.1]; exact HQ0.out⟩
      rw [show (r.fu != 0) = true by simp [hfu]]
      clear hfu HE
      generalize rStep r = r1 at *
      obtain ⟨-, ⟨a, c, hv⟩⟩ := HS2.out.is.slices
      obtain ⟨ln, hln⟩ : ∃ ln, ln = r1.q.length := ⟨_, rfl⟩
      have HLN := Kp.mk hln
      rw [← hln] at hv
      have HV := Kp.mk hv
      have hl9 : ln ≤ 1000000 := by rw [hln]; exact HS2.out.is.k.ql
      clear hv hln
      go_wp2_with fail
      go_loopw [3] (fun i wr => ∃ (j : Nat) (v1' : Value), j ≤ ln ∧ i = .int .i64 j ∧ RStep M v1 v2 v1' v2 { r1 with sure := rsettle r1.sure (r1.q.take j) } w wr) (fun i _ => ln - (intOf i).toNat)
      case atStart => exact ⟨0, v1, Nat.zero_le _, rfl, HS2.out⟩
      case round =>
        obtain ⟨j, v1', hj, rfl, hs⟩ := hrel
        have HS := Kp.mk hs
        have c2 : wr.cell? ⟨M, 2, none⟩ = some (.slice a ln c) := by rw [← HV.out]; exact hs.is.cells.1.2.2.1
        have HWr : Kp (Wr wr a r1.q) := ⟨own_wr (n := ln) (c := c) (by rw [← HV.out]; exact hs.is.o2) (fun x hx => (hs.is.k.q1 x hx).1)⟩
        clear hs
        by_cases hjl : j < ln
        · have hjl' : (j : Int) < (ln : Int) := by omega
          have hjll : j < r1.q.length := by rw [← HLN.out]; exact hjl
          obtain ⟨b, rfl, hb1, hb2⟩ := HWr.out j hjll
          obtain ⟨yk, yz, hy⟩ : ∃ yk yz, r1.q[j] = (yk, yz) := ⟨_, _, rfl⟩
          rw [hy] at hb2
          have HRY := Kp.mk hb2
          have HYL : Kp (yz.length = 64 ∧ Bytes yz) := ⟨by have := HS.out.is.k.q1 _ (List.getElem_mem hjll); rw [hy] at this; exact this⟩
          have HY65 : Kp ((wcells (yk, yz)).length = 65) := ⟨by rw [wcells_len HYL.out.1]⟩
          have HSS : Kp (rsettle r1.sure (r1.q.take (j + 1)) = rputL (rsettle r1.sure (r1.q.take j)) (yk, yz)) := ⟨by rw [rsettle_take hjll, hy]⟩
          have HSB : Kp ((rsettle r1.sure (r1.q.take j)).length + 1 ≤ 1000000) := ⟨by have := rsettle_len (r1.q.take j) r1.sure; rw [List.length_take] at this; have := HQ1.out; omega⟩
          clear hy hb2 hjll
          go_wp2_with (refine wpList_load_mid rfl 98 (.tmp 28) rfl b (j * 65) rfl (wcells (yk, yz)) _ HRY.out Try.underlying98 rfl (by rw [HY65.out]; exact info98s) ?_)
          refine (rput_any M yk v1' v2 _ yz _ HS.out.is HYL.out.1 HYL.out.2 HSB.out).mono ?_
          rintro e w4 ⟨⟨u, rfl⟩, v1'', hs4⟩
          have HS4 := Kp.mk (HS.out.trans hs4)
          clear hs4 c2
          go_wp2_with fail
          go_roundw
          case rel => exact ⟨j + 1, v1'', by omega, by first | rfl | go_num, by rw [HSS.out]; exact HS4.out⟩
          case measure => simp [intOf] <;> omega
        · obtain rfl : j = ln := by omega
          have HFN : Kp (RStep M v1 v2 v1' (.slice none 0 0) { r1 with sure := rsettle r1.sure r1.q, q := [] } w (wr.setCell ⟨M, 2, none⟩ (.slice none 0 0))) := ⟨by
            have h := HS.out
            rw [List.take_of_length_le (by rw [HLN.out]; exact Nat.le_refl _)] at h
            exact h.trans (RStep.nilq h.is)⟩
          have f2 := HS.out.is.cells.2 2
          have hlt := HS.out.is.lt
          go_wp2_with fail
          go_ret
          exact ⟨reti HW.out.1, v1', _, by rw [HW.out.2]; exact HFN.out⟩
/-- What a crash makes of what lasts. -/
def rcrashL (s q : List (Nat × List Int)) (kk u : Nat) : List (Nat × List Int) := match q[kk]? with
  | some x => rputL (rsettle s (q.take kk)) (x.1, splice (ofL (rsettle s (q.take kk)) x.1 z64) 0 (x.2.take u))
  | none => rsettle s (q.take kk)
def rCrashS (r : RlS) (n b : Int) : RlS := { r with sure := rcrashL r.sure r.q (upN n r.q.length) (upN b 64), q := [], fu := -1, dn := false }
theorem splice_next {l z : List Int} {k : Nat} (hk : k < z.length) (hl : z.length ≤ l.length) : (splice l 0 (z.take k)).set k z[k] = splice l 0 (z.take (k + 1)) := by
  unfold splice
  simp only [List.take_zero, List.nil_append, List.length_take]
  rw [Nat.min_eq_left (by omega), Nat.min_eq_left (by omega), Nat.zero_add, Nat.zero_add, List.take_add_one, List.getElem?_eq_getElem hk]
  simp only [Option.toList_some]
  rw [List.set_append_right k _ (by rw [List.length_take]; omega), List.length_take, Nat.min_eq_left (by omega), Nat.sub_self, List.append_assoc]
  congr 1
  rw [List.drop_eq_getElem_cons (by omega : k < l.length)]
  rfl
theorem infoz98 : (Try.prog.info? 98).map (fun i => (i.zero, i.size)) = some (some (.agg z82.toArray), 65) := by kernel_rfl
set_option maxRecDepth 100000 in
set_option maxHeartbeats 8000000 in
theorem rcrash_any (M : Nat) (v1 v2 : Value) (r : RlS) (n b : Int) (w : World) (h : RlIs w M v1 v2 r) (hq : r.sure.length + r.q.length + 1 ≤ 1000000) :
    Calls Try.prog 38 #[rP M, .int .i64 n, .int .i64 b] w (RPostU M v1 v2 (rCrashS r n b) w) := by
  have H := Kp.mk h
  have HQ1 := Kp.mk hq
  obtain ⟨-, ⟨a, c, hv⟩⟩ := h.slices
  obtain ⟨ln, hln⟩ : ∃ ln, ln = r.q.length := ⟨_, rfl⟩
  have HLN := Kp.mk hln
  rw [← hln] at hv
  have HV := Kp.mk hv
  have hl9 : ln ≤ 1000000 := by rw [hln]; exact h.k.ql
  obtain ⟨kk, hkk⟩ : ∃ kk, kk = upN n r.q.length := ⟨_, rfl⟩
  obtain ⟨u, hu⟩ : ∃ u, u = upN b 64 := ⟨_, rfl⟩
  have HU := Kp.mk hu
  have hu64 : u ≤ 64 := by rw [hu]; exact upN_le _ _
  have HCS : Kp (rCrashS r n b = { r with sure := rcrashL r.sure r.q kk u, q := [], fu := -1, dn := false }) := ⟨by unfold rCrashS; rw [← hkk, ← hu]⟩
  have HKL : Kp (kk ≤ ln) := ⟨by rw [hkk, hln]; exact upN_le _ _⟩
  have HKJ : Kp (∀ j, j < ln → (j < kk ↔ (j : Int) < n)) := ⟨by
    intro j hj
    rw [hkk]
    unfold upN
    omega⟩
  have HUB : Kp (∀ k, k < u → (k : Int) < b) := ⟨by intro k hk; rw [hu] at hk; unfold upN at hk; omega⟩
  have HUE : Kp (u < 64 → b ≤ (u : Int)) := ⟨by intro h; rw [hu] at h ⊢; unfold upN at h ⊢; omega⟩
  clear h hq hv hln hkk hu
  go_enter Try.func38, Try.ntmps38
  go_wp2_with fail
  go_loopw [6] (fun i wr => ∃ (j : Nat) (v1' : Value), j ≤ kk ∧ i = .int .i64 j ∧ RStep M v1 v2 v1' v2 { r with sure := rsettle r.sure (r.q.take j) } w wr) (fun i _ => ln - (intOf i).toNat)
  case atStart => exact ⟨0, v1, Nat.zero_le _, rfl, RStep.same H.out (Below.refl _ _)⟩
  case round =>
    obtain ⟨j, v1', hj, rfl, hs⟩ := hrel
    have HS := Kp.mk hs
    have c2 : wr.cell? ⟨M, 2, none⟩ = some (.slice a ln c) := by rw [← HV.out]; exact hs.is.cells.1.2.2.1
    have HWr : Kp (Wr wr a r.q) := ⟨own_wr (n := ln) (c := c) (by rw [← HV.out]; exact hs.is.o2) (fun x hx => (hs.is.k.q1 x hx).1)⟩
    have hjl0 : j ≤ ln := by have := HKL.out; omega
    clear hs
    by_cases hjl : j < ln
    · have hjl' : (j : Int) < (ln : Int) := by omega
      have hjll : j < r.q.length := by rw [← HLN.out]; exact hjl
      obtain ⟨qb, rfl, hb1, hb2⟩ := HWr.out j hjll
      obtain ⟨yk, yz, hy⟩ : ∃ yk yz, r.q[j] = (yk, yz) := ⟨_, _, rfl⟩
      have HYJ : Kp (r.q[j]? = some (yk, yz)) := ⟨by rw [List.getElem?_eq_getElem hjll, hy]⟩
      rw [hy] at hb2
      have HRY := Kp.mk hb2
      have HYL : Kp (yz.length = 64 ∧ Bytes yz) := ⟨by have := HS.out.is.k.q1 _ (List.getElem_mem hjll); rw [hy] at this; exact this⟩
      have HY65 : Kp ((wcells (yk, yz)).length = 65) := ⟨by rw [wcells_len HYL.out.1]⟩
      have HI65 : Kp ((Try.prog.info? 98).map (·.size) = some (wcells (yk, yz)).toArray.size) := ⟨by rw [List.size_toArray, HY65.out]; exact info98s⟩
      have HZ65 : Kp (z82.toArray.size = (wcells (yk, yz)).toArray.size) := ⟨by rw [List.size_toArray, List.size_toArray, HY65.out, z82_len]⟩
      have HA65 : Kp ((wcells (yk, yz)).toArray.all (·.oneCell') = true) := ⟨all_oneCell_toArray (wcells_one (yk, yz))⟩
      have HSS : Kp (rsettle r.sure (r.q.take (j + 1)) = rputL (rsettle r.sure (r.q.take j)) (yk, yz)) := ⟨by rw [rsettle_take hjll, hy]⟩
      have HSB : Kp ((rsettle r.sure (r.q.take j)).length + 1 ≤ 1000000) := ⟨by have := rsettle_len (r.q.take j) r.sure; rw [List.length_take] at this; have := HQ1.out; omega⟩
      have hjk := HKJ.out j hjl
      clear hy hb2 hjll
      by_cases hf : j < kk
      · have hf' : (j : Int) < n := hjk.1 hf
        have HF := Kp.mk hf
        clear hjk hf
        go_wp2_with (first
          | (refine wpList_load_mid rfl 98 (.tmp 24) rfl qb (j * 65) rfl (wcells (yk, yz)) _ HRY.out Try.underlying98 rfl (by rw [HY65.out]; exact info98s) ?_)
          | (refine wpList_alloc_row rfl 98 rfl _ _ infoz98 ?_; refine wpl_world (w := wr.alloc (.cells z82.toArray 98)) (fun w3 => Blk w3 wr.heap.size (.cells z82.toArray 98) ∧ Below wr.heap.size wr w3) ⟨Blk.new _ _, more (Below.refl _ _) _⟩ ?_; rintro W4 ⟨h1, h2⟩; have K1 := Kp.mk h1; have K2 := Kp.mk h2; clear h1 h2)
          | (refine wpList_store_row rfl 98 (.tmp 7) (.tmp 25) rfl wr.heap.size (wcells (yk, yz)).toArray rfl rfl 98 _ K1.out HI65.out HZ65.out HA65.out ?_; refine wpl_world (w := W4.setRow wr.heap.size (wcells (yk, yz)).toArray) (fun w3 => Blk w3 wr.heap.size (.cells (wcells (yk, yz)).toArray 98) ∧ Below wr.heap.size wr w3) ⟨Blk.setRow K1.out _, Below.row K2.out (Nat.le_refl _) _⟩ ?_; rintro V ⟨h1, h2⟩; have E2 := Kp.mk h1; have HSV := Kp.mk (HS.out.trans (RStep.same HS.out.is h2)); have cC : V.cell? ⟨wr.heap.size, 0, none⟩ = some (.int .i64 (yk : Nat)) := (by rw [h1.cell 0]; rfl); clear h1 h2 K1 K2)
          | (refine wpList_load_row rfl 98 (.tmp 7) rfl wr.heap.size rfl 98 _ (0, 0) _ E2.out Try.underlying98 rfl HI65.out ?_))
        refine (rput_any M yk v1' v2 _ yz _ HSV.out.is HYL.out.1 HYL.out.2 HSB.out).mono ?_
        rintro e w4 ⟨⟨q, rfl⟩, v1'', hs4⟩
        have HS4 := Kp.mk (HSV.out.trans hs4)
        clear hs4 c2 cC
        go_wp2_with fail
        go_roundw
        case rel => exact ⟨j + 1, v1'', by have := HF.out; omega, by first | rfl | go_num, by rw [HSS.out]; exact HS4.out⟩
        case measure => simp [intOf] <;> omega
      · have hf' : n ≤ (j : Int) := by omega
        have HJK : Kp (j = kk) := ⟨by omega⟩
        clear hjk hf
        go_wp2_with (first
          | (refine wpList_load_mid rfl 98 (.tmp 24) rfl qb (j * 65) rfl (wcells (yk, yz)) _ HRY.out Try.underlying98 rfl (by rw [HY65.out]; exact info98s) ?_)
          | (refine wpList_alloc_row rfl 98 rfl _ _ infoz98 ?_; refine wpl_world (w := wr.alloc (.cells z82.toArray 98)) (fun w3 => Blk w3 wr.heap.size (.cells z82.toArray 98) ∧ Below wr.heap.size wr w3) ⟨Blk.new _ _, more (Below.refl _ _) _⟩ ?_; rintro W4 ⟨h1, h2⟩; have K1 := Kp.mk h1; have K2 := Kp.mk h2; clear h1 h2)
          | (refine wpList_store_row rfl 98 (.tmp 7) (.tmp 25) rfl wr.heap.size (wcells (yk, yz)).toArray rfl rfl 98 _ K1.out HI65.out HZ65.out HA65.out ?_; refine wpl_world (w := W4.setRow wr.heap.size (wcells (yk, yz)).toArray) (fun w3 => Blk w3 wr.heap.size (.cells (wcells (yk, yz)).toArray 98) ∧ Below wr.heap.size wr w3) ⟨Blk.setRow K1.out _, Below.row K2.out (Nat.le_refl _) _⟩ ?_; rintro V ⟨h1, h2⟩; have E2 := Kp.mk h1; have HSV := Kp.mk (HS.out.trans (RStep.same HS.out.is h2)); have cC : V.cell? ⟨wr.heap.size, 0, none⟩ = some (.int .i64 (yk : Nat)) := (by rw [h1.cell 0]; rfl); clear h1 h2 K1 K2))
        refine (ris_any M v1' v2 _ (yk : Nat) _ HSV.out.is).mono ?_
        rintro e w4 ⟨rfl, hb4⟩
        have E4 := Kp.mk (Blk.keep E2.out hb4)
        have HS4 := Kp.mk (HSV.out.trans (RStep.same HSV.out.is hb4))
        obtain ⟨was, hwas⟩ : ∃ was, was = ofL ({ r with sure := rsettle r.sure (r.q.take j) } : RlS).sure (yk : Nat) z64 := ⟨_, rfl⟩
        have HWAS := Kp.mk hwas
        have HWL : Kp (was.length = 64 ∧ Bytes was) := ⟨by rw [hwas]; exact ofL_len _ _ _ HSV.out.is.k.s1 ⟨z64_len, z64_b⟩⟩
        have HN4 : Kp (wr.heap.size < w4.heap.size) := ⟨E4.out.lt⟩
        rw [← hwas]
        clear hb4 hwas
        obtain ⟨D, hD⟩ : ∃ D, D = w4.heap.size := ⟨_, rfl⟩
        have HD := Kp.mk hD
        clear hD c2 cC
        go_wp2_with (first
          | (refine wpList_alloc_row rfl 30 rfl _ _ infoz30 ?_; rw [← HD.out]; refine wpl_world (w := w4.alloc (.cells (kv .u8 z64).toArray 30)) (fun w6 => Row w6 D 30 .u8 z64 ∧ Below w4.heap.size w4 w6) ⟨Blk.newAt _ HD.out, more (Below.refl _ _) _⟩ ?_; rintro W8 ⟨h1, h2⟩; have K1 := Kp.mk h1; have K2 := Kp.mk h2; clear h1 h2)
          | (refine wpList_store_row rfl 30 (.tmp 8) (.tmp 35) rfl D (kv .u8 was).toArray rfl rfl 30 _ K1.out (cells30 HWL.out.1) (by rw [kv_size, kv_size, HWL.out.1, z64_len]) (kv_all _ _) ?_; refine wpl_world (w := W8.setRow D (kv .u8 was).toArray) (fun w6 => Row w6 D 30 .u8 was ∧ Below w4.heap.size w4 w6) ⟨K1.out.setRow _, Below.row K2.out (by rw [HD.out]; exact Nat.le_refl _) _⟩ ?_; rintro W5 ⟨h1, h2⟩; have E5 := Kp.mk h1; have E5c := Kp.mk (Blk.keep E4.out h2); have HS5 := Kp.mk (HS4.out.trans (RStep.same HS4.out.is h2)); clear h1 h2 K1 K2))
        have HCD : Kp (wr.heap.size ≠ D) := ⟨by rw [HD.out]; have := HN4.out; omega⟩
        obtain ⟨wo, rfl⟩ : ∃ wo : World, wo = wr := ⟨_, rfl⟩
        go_loopw [9] (fun i wq => ∃ k : Nat, k ≤ u ∧ i = .int .i64 k ∧ Turn D (.cells (kv .u8 (splice was 0 (yz.take k))).toArray 30) W5 wq) (fun i _ => u - (intOf i).toNat)
        case atStart => exact ⟨0, Nat.zero_le _, rfl, by have e : splice was 0 (yz.take 0) = was := (by simp [splice]); rw [e]; exact Turn.same E5.out⟩
        case round =>
          obtain ⟨k, hk, rfl, hT⟩ := hrel
          have HT := Kp.mk hT
          have HCq : Kp (Blk wr wo.heap.size (.cells (wcells (yk, yz)).toArray 98)) := ⟨hT.keep E5c.out HCD.out⟩
          have HDq : Kp (Row wr D 30 .u8 (splice was 0 (yz.take k))) := ⟨hT.blk⟩
          have HSL : Kp ((splice was 0 (yz.take k)).length = 64) := ⟨by rw [length_splice _ _ _ (by rw [List.length_take, HYL.out.1, HWL.out.1]; omega), HWL.out.1]⟩
          clear hT
          by_cases hku : k < u
          · have hk64 : (k : Int) < 64 := by omega
            have hkb := HUB.out k hku
            have hkz : k < yz.length := by rw [HYL.out.1]; omega
            obtain ⟨x, hx⟩ : ∃ x, x = yz[k] := ⟨_, rfl⟩
            have cz : wr.cell? ⟨wo.heap.size, 1 + k, none⟩ = some (.int .u8 x) := wcells_midT HCq.out k _ (by rw [List.getElem?_map, List.getElem?_eq_getElem hkz, ← hx]; rfl)
            have cd := HDq.out.cell (i := k) (by rw [HSL.out]; omega)
            have fd := HDq.out.frozen k
            have HTN : Kp (∀ W, W = wr.setCell ⟨D, k, none⟩ (.int .u8 x) → Turn D (.cells (kv .u8 (splice was 0 (yz.take (k + 1)))).toArray 30) W5 W) := ⟨by
              rintro W rfl
              rw [← splice_next hkz (by rw [HYL.out.1, HWL.out.1]; exact Nat.le_refl _), ← hx]
              refine (HT.out.set k (.int .u8 x)).as ?_
              congr 1
              apply Array.toList_inj.1
              simp [List.map_set]⟩
            clear hx hkz
            go_wp2_with fail
            clear cz cd fd
            go_roundw
            case rel => exact ⟨k + 1, by omega, by first | rfl | go_num, HTN.out _ rfl⟩
            case measure => simp [intOf] <;> omega
          · obtain rfl : k = u := by omega
            have c0 : wr.cell? ⟨wo.heap.size, 0, none⟩ = some (.int .i64 (yk : Nat)) := by rw [HCq.out.cell 0]; rfl
            have HRq : Kp (RStep M v1 v2 v1' v2 { r with sure := rsettle r.sure (r.q.take j) } w wr) := ⟨HS5.out.turnNew (by rw [HD.out]; exact HS4.out.size) E5.out HT.out⟩
            have HSLb : Kp (Bytes (splice was 0 (yz.take k))) := ⟨splice_bytes HWL.out.2 (HYL.out.2.take k)⟩
            by_cases hk64 : (k : Int) < 64
            · have hkb := HUE.out (by omega)
              go_wp2_with (first
                | (refine wpList_load_row rfl 30 (.tmp 8) rfl D rfl 30 _ (0, 0) _ HDq.out Try.underlying30 rfl (cells30 HSL.out) ?_)
                | (refine wpList_val rfl (exec_build98 HSL.out rfl rfl rfl) ?_))
              refine (rput_any M yk v1' v2 _ (splice was 0 (yz.take k)) _ HRq.out.is HSL.out HSLb.out HSB.out).mono ?_
              rintro e w7 ⟨⟨q, rfl⟩, v1'', hs7⟩
              have HS7 := Kp.mk (HRq.out.trans hs7)
              clear hs7 c0
              have HFN : Kp (RStep M v1 v2 v1'' (.slice none 0 0) (rCrashS r n b) w (((w7.setCell ⟨M, 2, none⟩ (.slice none 0 0)).setCell ⟨M, 3, none⟩ (.int .i64 (-1))).setCell ⟨M, 4, none⟩ (.bool false))) := ⟨by
                have h := HS7.out.trans (RStep.ends HS7.out.is)
                rw [HCS.out]
                have e : rcrashL r.sure r.q kk k = rputL (rsettle r.sure (r.q.take j)) (yk, splice was 0 (yz.take k)) := by
                  unfold rcrashL
                  rw [← HJK.out, HYJ.out, HWAS.out]
                rw [e]
                exact h⟩
              have f2 := HS7.out.is.cells.2 2
              have f3 := HS7.out.is.cells.2 3
              have f4 := HS7.out.is.cells.2 4
              have d2 := HS7.out.is.cells.1.2.2.1
              have d3 := HS7.out.is.cells.1.2.2.2.1
              have d4 := HS7.out.is.cells.1.2.2.2.2.1
              have hlt := HS7.out.is.lt
              rw [HV.out] at d2
              go_wp2_with fail
              go_end0
              exact ⟨⟨_, rfl⟩, v1'', _, HFN.out⟩
            · have hk64' : (64 : Int) ≤ (k : Int) := by omega
              go_wp2_with (first
                | (refine wpList_load_row rfl 30 (.tmp 8) rfl D rfl 30 _ (0, 0) _ HDq.out Try.underlying30 rfl (cells30 HSL.out) ?_)
                | (refine wpList_val rfl (exec_build98 HSL.out rfl rfl rfl) ?_))
              refine (rput_any M yk v1' v2 _ (splice was 0 (yz.take k)) _ HRq.out.is HSL.out HSLb.out HSB.out).mono ?_
              rintro e w7 ⟨⟨q, rfl⟩, v1'', hs7⟩
              have HS7 := Kp.mk (HRq.out.trans hs7)
              clear hs7 c0
              have HFN : Kp (RStep M v1 v2 v1'' (.slice none 0 0) (rCrashS r n b) w (((w7.setCell ⟨M, 2, none⟩ (.slice none 0 0)).setCell ⟨M, 3, none⟩ (.int .i64 (-1))).setCell ⟨M, 4, none⟩ (.bool false))) := ⟨by
                have h := HS7.out.trans (RStep.ends HS7.out.is)
                rw [HCS.out]
                have e : rcrashL r.sure r.q kk k = rputL (rsettle r.sure (r.q.take j)) (yk, splice was 0 (yz.take k)) := by
                  unfold rcrashL
                  rw [← HJK.out, HYJ.out, HWAS.out]
                rw [e]
                exact h⟩
              have f2 := HS7.out.is.cells.2 2
              have f3 := HS7.out.is.cells.2 3
              have f4 := HS7.out.is.cells.2 4
              have d2 := HS7.out.is.cells.1.2.2.1
              have d3 := HS7.out.is.cells.1.2.2.2.1
              have d4 := HS7.out.is.cells.1.2.2.2.2.1
              have hlt := HS7.out.is.lt
              rw [HV.out] at d2
              go_wp2_with fail
              go_end0
              exact ⟨⟨_, rfl⟩, v1'', _, HFN.out⟩
    · obtain rfl : j = ln := by omega
      have HK2 : Kp (kk = j) := ⟨by have := HKL.out; omega⟩
      have HFN : Kp (RStep M v1 v2 v1' (.slice none 0 0) (rCrashS r n b) w (((wr.setCell ⟨M, 2, none⟩ (.slice none 0 0)).setCell ⟨M, 3, none⟩ (.int .i64 (-1))).setCell ⟨M, 4, none⟩ (.bool false))) := ⟨by
        have h := HS.out.trans (RStep.ends HS.out.is)
        rw [HCS.out]
        have e : rcrashL r.sure r.q kk u = rsettle r.sure (r.q.take j) := by
          unfold rcrashL
          rw [HK2.out, List.getElem?_eq_none (by rw [HLN.out]; exact Nat.le_refl _)]
        rw [e]
        exact h⟩
      have f2 := HS.out.is.cells.2 2
      have f3 := HS.out.is.cells.2 3
      have f4 := HS.out.is.cells.2 4
      have d3 := HS.out.is.cells.1.2.2.2.1
      have d4 := HS.out.is.cells.1.2.2.2.2.1
      have hlt := HS.out.is.lt
      go_wp2_with fail
      go_end0
      exact ⟨⟨_, rfl⟩, v1', _, HFN.out⟩
end Go.Proofs.Ytgikedbnnlckjaa
