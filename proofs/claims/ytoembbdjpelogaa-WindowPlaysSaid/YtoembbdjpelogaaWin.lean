/-
  The contracts of the window's and the counter's calls.
-/
import Derived.Test.YtoembbdjpelogaaProg
import Derived.Test.YtoembbdjpelogaaFlow
import Derived.Test.YtoembbdjpelogaaFlowV
import Derived.Test.YtoembbdjpelogaaWinP
import Derived.WalkSpells
import Derived.WalkLawsBesides
import Derived.BigQuiet
import Derived.Deep.QuietTactic
import Derived.Outline
import Derived.Lib.Hide
namespace Go.Proofs.Ytoembbdjpelogaa
open Go.RowKit

abbrev winObj (size boot top tk : Nat) : Obj := .cells #[.int .u64 size, .int .u64 boot, .int .u64 top, .int .u64 tk] 105
theorem retb {a b : Bool} (h : a = b) : Ending.returned (.bool a) = Ending.returned (.bool b) := by rw [h]
theorem reti {k : IntKind} {a b : Int} (h : a = b) : Ending.returned (.int k a) = .returned (.int k b) := by rw [h]

set_option maxHeartbeats 1600000 in
theorem fresh_any (b : Nat) (size wb top tk boot count : Nat) (w : World) (hB : Blk w b (winObj size wb top tk)) (hs : size ≤ 64) (h2 : top ≤ 18446744073709551615) (h3 : tk < 18446744073709551616) :
    Calls Try.prog 38 #[.pointer (some ⟨b, 0, none⟩), .int .u64 boot, .int .u64 count] w fun r w' => r = .returned (.bool (freshN size wb top tk boot count)) ∧ w = w' := by
  obtain ⟨c0, c1, c2, c3, -⟩ := hB.four
  clear hB
  by_cases b0 : boot = 0
  · have HV : Hid (freshN size wb top tk boot count = false) := by unfold Hid; simp [freshN, b0]
    have t0 : ((boot : Int) == 0) = true := by simp [b0]
    clear b0
    go_enter Try.func38, Try.ntmps38
    go_wp2_with fail
    go_ret
    exact ⟨retb HV.out.symm, rfl⟩
  · have t0 : ((boot : Int) == 0) = false := by simp [b0]
    by_cases b1 : count = 0
    · have HV : Hid (freshN size wb top tk boot count = false) := by unfold Hid; simp [freshN, b1]
      have t1 : ((count : Int) == 0) = true := by simp [b1]
      clear b0 b1
      go_enter Try.func38, Try.ntmps38
      go_wp2_with fail
      go_ret
      exact ⟨retb HV.out.symm, rfl⟩
    · have t1 : ((count : Int) == 0) = false := by simp [b1]
      by_cases b2 : boot < wb
      · have HV : Hid (freshN size wb top tk boot count = false) := by unfold Hid; simp [freshN, b2]
        have t2 : (boot : Int) < wb := by omega
        clear b0 b1 b2
        go_enter Try.func38, Try.ntmps38
        go_wp2_with fail
        go_ret
        exact ⟨retb HV.out.symm, rfl⟩
      · by_cases b3 : wb < boot
        · have HV : Hid (freshN size wb top tk boot count = true) := by unfold Hid; simp [freshN, b0, b1, b2, b3]
          have t3 : (wb : Int) < boot := by omega
          clear b0 b1 b2 b3
          go_enter Try.func38, Try.ntmps38
          go_wp2_with fail
          go_ret
          exact ⟨retb HV.out.symm, rfl⟩
        · obtain rfl : boot = wb := by omega
          by_cases b4 : top < count
          · have HV : Hid (freshN size boot top tk boot count = true) := by unfold Hid; simp [freshN, b0, b1, b4]
            have t4 : (top : Int) < count := by omega
            clear b0 b1 b2 b3 b4
            go_enter Try.func38, Try.ntmps38
            go_wp2_with fail
            go_ret
            exact ⟨retb HV.out.symm, rfl⟩
          · have t4 : (count : Int) ≤ top := by omega
            have hv : freshN size boot top tk boot count = (decide (top - count < size) && !tk.testBit (top - count)) := by simp [freshN, b0, b1, b4]
            by_cases b5 : top - count < size
            · have t5 : (top : Int) - count < size := by omega
              have hk := bit_eq' h3 (show top - count < 64 by omega)
              have HV : Hid (freshN size boot top tk boot count = !tk.testBit (top - count)) := by unfold Hid; rw [hv]; simp [b5]
              have HK := Lib.hid hk
              have h1 : 0 ≤ (top : Int) := by omega
              clear b0 b1 b2 b3 b4 b5 hv hk
              go_enter Try.func38, Try.ntmps38
              go_wp2_with fail
              go_ret
              exact ⟨retb (HK.out.trans HV.out.symm), rfl⟩
            · have t5 : (size : Int) ≤ (top : Int) - count := by omega
              have HV : Hid (freshN size boot top tk boot count = false) := by unfold Hid; rw [hv]; simp; omega
              clear b0 b1 b2 b3 b4 b5 hv
              go_enter Try.func38, Try.ntmps38
              go_wp2_with fail
              go_ret
              exact ⟨retb HV.out.symm, rfl⟩

/-- Block b is turned into o; all else that was in memory is as it was. -/
structure Turn (b : Nat) (o : Obj) (w w' : World) : Prop where
  os : w'.os = w.os
  tape : w'.tape = w.tape
  output : w'.output = w.output
  size : w.heap.size ≤ w'.heap.size
  blk : Blk w' b o
  other : ∀ k, k < w.heap.size → k ≠ b → w'.heap[k]? = w.heap[k]?
theorem Turn.same {b : Nat} {o : Obj} {w : World} (h : Blk w b o) : Turn b o w w := ⟨rfl, rfl, rfl, Nat.le_refl _, h, fun _ _ _ => rfl⟩
theorem Turn.below {b B : Nat} {o : Obj} {w w' : World} (h : Turn b o w w') (hB : B ≤ b) (hs : B ≤ w.heap.size) : Below B w w' := ⟨h.os, h.tape, h.output, h.size, fun k hk => h.other k (by omega) (by omega)⟩
theorem Turn.keep {b c : Nat} {o o' : Obj} {w w' : World} (h : Turn b o w w') (hk : Blk w c o') (hne : c ≠ b) : Blk w' c o' := (h.other c hk.lt hne).trans hk
theorem Turn.set {b : Nat} {cs : Array Value} {t : TypeId} {fr : Nat × Nat} {w w' : World} (h : Turn b (.cells cs t fr) w w') (i : Nat) (v : Value) : Turn b (.cells (cs.setIfInBounds i v) t fr) w (w'.setCell ⟨b, i, none⟩ v) :=
  ⟨h.os, h.tape, h.output, by simpa [World.setCell] using h.size, h.blk.set i v, fun k hk hne => by rw [Below.heap_setCell _ _ _ _ hne]; exact h.other k hk hne⟩
theorem Turn.drew {b : Nat} {o : Obj} {w w' : World} (h : Turn b o w w') : Turn b o w w'.drew := ⟨h.os, h.tape, h.output, h.size, h.blk, h.other⟩
theorem Turn.drewN {b : Nat} {o : Obj} {w w' : World} (h : Turn b o w w') (n : Nat) : Turn b o w (w'.drewN n) := ⟨h.os, h.tape, h.output, h.size, h.blk, h.other⟩
theorem Turn.as {b : Nat} {o o' : Obj} {w w' : World} (h : Turn b o w w') (e : o = o') : Turn b o' w w' := e ▸ h

set_option maxHeartbeats 1600000 in
theorem take_any (b : Nat) (size wb top tk boot count : Nat) (w : World) (hB : Blk w b (winObj size wb top tk)) (hs : size ≤ 64) (h2 : top ≤ 18446744073709551615) (h3 : tk < 18446744073709551616) (h4 : count ≤ 18446744073709551615) :
    Calls Try.prog 41 #[.pointer (some ⟨b, 0, none⟩), .int .u64 boot, .int .u64 count] w fun r w' => r = .returned (.int .i64 (takeR size wb top tk boot count : Nat)) ∧
      Turn b (winObj size (takeB size wb top tk boot count) (takeT size wb top tk boot count) (takeK size wb top tk boot count)) w w' := by
  obtain ⟨c0, c1, c2, c3, f0, f1, f2, f3⟩ := hB.four
  by_cases b0 : boot = 0 ∨ count = 0
  · have hr : takeR size wb top tk boot count = 1 := by simp [takeR, b0]
    have hT : Turn b (winObj size (takeB size wb top tk boot count) (takeT size wb top tk boot count) (takeK size wb top tk boot count)) w w := by
      simp only [takeB, takeT, takeK, hr]; exact Turn.same hB
    have HR := Lib.hid hr
    have HT := Lib.hid hT
    have t0 : ((boot : Int) == 0) = true ∨ ((boot : Int) == 0) = false ∧ ((count : Int) == 0) = true := by
      by_cases h : boot = 0
      · exact .inl (by simp [h])
      · exact .inr ⟨by simp [h], by have : count = 0 := by omega
                                    simp [this]⟩
    clear b0 hr hT hB
    rcases t0 with t0 | ⟨t0, t1⟩
    all_goals
      go_enter Try.func41, Try.ntmps41
      go_wp2_with fail
      go_ret
      exact ⟨reti (by rw [HR.out]; rfl), HT.out⟩
  · have t0 : ((boot : Int) == 0) = false := by simp; omega
    have t1 : ((count : Int) == 0) = false := by simp; omega
    by_cases hf : freshN size wb top tk boot count = true
    · have hr : takeR size wb top tk boot count = 0 := by simp [takeR, b0, hf]
      have hfz : ¬ (boot = 0 ∨ count = 0 ∨ boot < wb) := by
        intro h
        unfold freshN at hf
        rw [if_pos h] at hf
        cases hf
      have HF := Lib.hid hf
      have HB := Lib.hid hB
      have t2 : (wb : Int) ≤ boot := by omega
      by_cases b3 : wb < boot
      · have hT : Turn b (winObj size (takeB size wb top tk boot count) (takeT size wb top tk boot count) (takeK size wb top tk boot count)) w (((w.setCell ⟨b, 1, none⟩ (.int .u64 boot)).setCell ⟨b, 2, none⟩ (.int .u64 count)).setCell ⟨b, 3, none⟩ (.int .u64 1)) := by
          refine ((((Turn.same hB).set 1 _).set 2 _).set 3 _).as ?_
          simp [takeB, takeT, takeK, hr, b3]
        have t3 : (wb : Int) < boot := by omega
        have HR := Lib.hid hr
        have HT := Lib.hid hT
        clear b0 hf hfz hr hT hB b3
        go_enter Try.func41, Try.ntmps41
        go_wp2_with fail
        refine (fresh_any b size wb top tk boot count _ HB.out hs h2 h3).mono ?_
        rintro r w1 ⟨rfl, rfl⟩
        rw [HF.out]
        go_wp2_with fail
        go_ret
        exact ⟨reti (by rw [HR.out]; rfl), HT.out⟩
      · obtain rfl : boot = wb := by omega
        by_cases b4 : top < count
        · have hT : winObj size (takeB size boot top tk boot count) (takeT size boot top tk boot count) (takeK size boot top tk boot count) = winObj size boot count ((tk * 2 ^ (count - top) % 18446744073709551616) ||| 1) := by
            simp [takeB, takeT, takeK, hr, b4]
          have t4 : (top : Int) < count := by omega
          have hE := up_eq (tk := tk) (show top < count from b4) h4
          have HR := Lib.hid hr
          have HT := Lib.hid hT
          have HE := Lib.hid hE
          clear b0 hf hfz hr hT hB b3 b4 hE
          go_enter Try.func41, Try.ntmps41
          go_wp2_with fail
          refine (fresh_any b size boot top tk boot count _ HB.out hs h2 h3).mono ?_
          rintro r w1 ⟨rfl, rfl⟩
          rw [HF.out]
          go_wp2_with fail
          refine wp_region_flow_vars (fun w' => Turn b (winObj size boot top tk) w w' ∧ Blk w' b (winObj size boot top tk)) [0, 1, 2, 3, 4, 5, 6, 7, 8, 9, 10, 11, 12, 13, 14] [] [15] (fun _ => .cells #[] 0) (by kernel_rfl) (by kernel_rfl) (by kernel_rfl) (by decide)
            (fun _ _ h hb => ⟨⟨hb.os.trans h.1.os, hb.tape.trans h.1.tape, hb.output.trans h.1.output, Nat.le_trans h.1.size hb.size, h.2.keep hb, fun k hk hne => (hb.block k (Nat.lt_of_lt_of_le hk h.1.size)).trans (h.1.other k hk hne)⟩, h.2.keep hb⟩)
            ⟨(Turn.same HB.out).drew, HB.out.draw⟩ (by simp) (by decide) ?_
          refine flowN_sel _ _ (by decide) ?_
          simp only [sel, List.filterMap_cons, List.filterMap_nil, List.getElem?_toArray, List.getElem?_cons_succ, List.getElem?_cons_zero]
          repeat (first
            | (apply Flow.value
               · rfl
               · (intro wx hS; have c1 := hS.2.cell; go_simp; with_reducible rfl)
               try simp only [Act.put, List.setIfInBounds_toArray, List.set_cons_zero, List.set_cons_succ]))
          refine Flow.done ?_
          intro γ w2 hS hn hg
          simp only [putNew]
          obtain ⟨c0, c1, c2, c3, f0, f1, f2, f3⟩ := hS.2.four
          refine wpOps_step rfl (by rfl) ?_
          go_simp
          refine wpOps_done ?_
          rw [HE.out]
          clear HE
          have hT3 := hS.1.set 3 (.int .u64 (((tk * 2 ^ (count - top) % 18446744073709551616) ||| 1 : Nat) : Int))
          have HT3 := Lib.hid ((hT3.set 2 (.int .u64 count)).as (o' := winObj size boot count ((tk * 2 ^ (count - top) % 18446744073709551616) ||| 1)) rfl)
          clear hT3 hS hn hg
          go_wp2_with fail
          go_ret
          exact ⟨reti (by rw [HR.out]; rfl), by rw [HT.out]; exact HT3.out⟩
        · have hT : winObj size (takeB size boot top tk boot count) (takeT size boot top tk boot count) (takeK size boot top tk boot count) = winObj size boot top (tk ||| 2 ^ (top - count)) := by
            simp [takeB, takeT, takeK, hr, b4]
          have t4 : (count : Int) ≤ top := by omega
          have hk : top - count < 64 := by
            unfold freshN at hf
            rw [if_neg hfz, if_neg (by omega)] at hf
            simp at hf
            omega
          have hE := in_eq (show count ≤ top by omega) h2 hk h3
          have HR := Lib.hid hr
          have HT := Lib.hid hT
          have HE := Lib.hid hE
          clear b0 hf hfz hr hT hB b3 b4 hE hk
          go_enter Try.func41, Try.ntmps41
          go_wp2_with fail
          refine (fresh_any b size boot top tk boot count _ HB.out hs h2 h3).mono ?_
          rintro r w1 ⟨rfl, rfl⟩
          rw [HF.out]
          go_wp2_with fail
          refine wp_region_flow_vars (fun w' => Turn b (winObj size boot top tk) w w' ∧ Blk w' b (winObj size boot top tk)) [0, 1, 2, 3, 4, 5, 6, 7, 8, 9, 10, 11, 12, 13] [] [14] (fun _ => .cells #[] 0) (by kernel_rfl) (by kernel_rfl) (by kernel_rfl) (by decide)
            (fun _ _ h hb => ⟨⟨hb.os.trans h.1.os, hb.tape.trans h.1.tape, hb.output.trans h.1.output, Nat.le_trans h.1.size hb.size, h.2.keep hb, fun k hk hne => (hb.block k (Nat.lt_of_lt_of_le hk h.1.size)).trans (h.1.other k hk hne)⟩, h.2.keep hb⟩)
            ⟨(Turn.same HB.out).drew, HB.out.draw⟩ (by simp) (by decide) ?_
          refine flowN_sel _ _ (by decide) ?_
          simp only [sel, List.filterMap_cons, List.filterMap_nil, List.getElem?_toArray, List.getElem?_cons_succ, List.getElem?_cons_zero]
          repeat (first
            | (apply Flow.value
               · rfl
               · (intro wx hS; have c1 := hS.2.cell; go_simp; with_reducible rfl)
               try simp only [Act.put, List.setIfInBounds_toArray, List.set_cons_zero, List.set_cons_succ]))
          refine Flow.done ?_
          intro γ w2 hS hn hg
          simp only [putNew]
          obtain ⟨c0, c1, c2, c3, f0, f1, f2, f3⟩ := hS.2.four
          refine wpOps_step rfl (by rfl) ?_
          go_simp
          refine wpOps_done ?_
          rw [HE.out]
          clear HE
          have hT3 := hS.1.set 3 (.int .u64 ((tk ||| 2 ^ (top - count) : Nat) : Int))
          have HT3 := Lib.hid (hT3.as (o' := winObj size boot top (tk ||| 2 ^ (top - count))) rfl)
          clear hT3 hS hn hg
          go_wp2_with fail
          go_ret
          exact ⟨reti (by rw [HR.out]; rfl), by rw [HT.out]; exact HT3.out⟩
    · have hf' : freshN size wb top tk boot count = false := by simpa using hf
      have hr : takeR size wb top tk boot count = 25 := by simp [takeR, b0, hf']
      have hT : Turn b (winObj size (takeB size wb top tk boot count) (takeT size wb top tk boot count) (takeK size wb top tk boot count)) w w := by
        simp only [takeB, takeT, takeK, hr]; exact Turn.same hB
      have HR := Lib.hid hr
      have HT := Lib.hid hT
      have HF := Lib.hid hf'
      have HB := Lib.hid hB
      clear b0 hr hT hf hf' hB
      go_enter Try.func41, Try.ntmps41
      go_wp2_with fail
      refine (fresh_any b size wb top tk boot count _ HB.out hs h2 h3).mono ?_
      rintro r w1 ⟨rfl, rfl⟩
      rw [HF.out]
      go_wp2_with fail
      go_ret
      exact ⟨reti (by rw [HR.out]; rfl), HT.out⟩

set_option maxHeartbeats 400000 in
theorem new_yes (size : Nat) (w : World) (h1 : 1 ≤ size) (h2 : size ≤ 64) :
    Calls Try.prog 36 #[.int .i64 size] w fun r w' => r = .returned (.tuple #[.pointer (some ⟨w.heap.size, 0, none⟩), .int .i64 0]) ∧ w.alloc (winObj size 0 0 0) = w' := by
  have t1 : ¬ (size : Int) < 1 := by omega
  have t2 : ¬ (64 : Int) < size := by omega
  go_enter Try.func36, Try.ntmps36
  go_wp2_with fail
  go_ret2
  exact ⟨rfl, rfl⟩

set_option maxHeartbeats 400000 in
theorem new_no (size : Int) (w : World) (h : size < 1 ∨ 64 < size) :
    Calls Try.prog 36 #[.int .i64 size] w fun r w' => r = .returned (.tuple #[.pointer none, .int .i64 1]) ∧ w = w' := by
  rcases h with h | h
  all_goals
    go_enter Try.func36, Try.ntmps36
    go_wp2_with fail
    go_ret2
    exact ⟨rfl, rfl⟩

set_option maxHeartbeats 400000 in
theorem top_any (b : Nat) (size wb top tk : Nat) (w : World) (hB : Blk w b (winObj size wb top tk)) :
    Calls Try.prog 42 #[.pointer (some ⟨b, 0, none⟩)] w fun r w' => r = .returned (.tuple #[.int .u64 wb, .int .u64 top]) ∧ ∃ n, w' = w.drewN n := by
  obtain ⟨c0, c1, c2, c3, -⟩ := hB.four
  clear hB
  go_enter Try.func42, Try.ntmps42
  go_wp2_with fail
  go_quiet (fail)
  go_wp2_with fail
  go_ret2
  exact ⟨rfl, _, rfl⟩
end Go.Proofs.Ytoembbdjpelogaa
