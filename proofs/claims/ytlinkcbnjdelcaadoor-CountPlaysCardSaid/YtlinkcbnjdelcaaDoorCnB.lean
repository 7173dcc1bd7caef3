/-
  Names, counters of names, and of errors.
-/
import Derived.Test.YtlinkcbnjdelcaaDoorCnA
namespace Go.Proofs.YtlinkcbnjdelcaaDoor
open Go.RowKit

/-- The counter of an error. -/
def ofE (e : Int) : Int := if e = 10 then 1 else if e = 9 then 1 else if e = 8 then 1 else if e = 1 then 1 else if e = 7 then 1 else if e = 29 then 2 else if e = 26 then 3 else if e = 24 then 4 else if e = 25 then 5 else if e = 27 then 9 else if e = 3 then 9 else if e = 22 then 11 else if e = 28 then 12 else if e = 23 then 15 else if e = 6 then 10 else -1

theorem wpList_buildSlice_eq {P : Program} {w : World} {ops : Array Oper} {rest : List Oper} {o : Oper} {a : Act} {Q : Exit → Act → World → Prop} (hg : o.guard = none) (t : TypeId) (len : Nat) (parts : Array (Nat × Operand)) (ho : o.op = .buildSlice t len parts)
    (ps : Array (Nat × Value)) (hps : (parts.map fun (i, x) => (i, a.eval x)) = ps) (v : Value) (w' : World) (hrun : (Instr.buildSlice t len ps).run P w = .ok v w') (h : wpList P ops Q rest (a.put o.dst v) w') : wpList P ops Q (o :: rest) a w := by
  subst hps
  refine wpList_plain hg fun _ hK => ?_
  unfold Oper.wp execOp
  simp only [ho, Sem.run_bind, hrun, Result.andThen_ok]
  exact hK _ _ h
def nmV : List Value := nmB.map fun l => .string ⟨l.toArray⟩
theorem nmV_at {i : Nat} (h : i < 19) : nmV[i]? = some (.string (nmA i)) := by
  unfold nmV nmA
  rw [List.getElem?_map, List.getD_eq_getElem?_getD, List.getElem?_eq_getElem (show i < nmB.length from h)]
  rfl
theorem NamIs.range {w : World} (h : NamIs w) : w.rangeAt 0 0 nmV := fun j v hv => by
  have hj : j < 19 := by have := (List.getElem?_eq_some_iff.1 hv).1; simpa [nmV, nmB] using this
  rw [nmV_at hj] at hv
  rw [Nat.zero_add, ← hv]
  exact h j hj
def nameS (d : Int) : ByteArray := if okB d = true then nmA d.toNat else ⟨#[]⟩
set_option maxHeartbeats 1600000 in
theorem name_any (d : Int) (w : World) (hk : Kon w) : Calls Tryd.prog 13 #[.int .i64 d] w fun r w' => r = .returned (.string (nameS d)) ∧ w = w' := by
  have HI := fun w1 => isC_any d w1
  cases ho : okB d with
  | false =>
    have HE : Kp (nameS d = ⟨#[]⟩) := ⟨by simp [nameS, ho]⟩
    rw [ho] at HI
    clear ho hk
    go_enter Tryd.func13, Tryd.ntmps13
    go_wp2_with fail
    refine (HI _).mono ?_
    rintro r w1 ⟨rfl, rfl⟩
    go_wp2_with fail
    go_ret
    exact ⟨by rw [HE.out]; rfl, rfl⟩
  | true =>
    rw [ho] at HI
    have hd : ∃ k : Nat, d = k ∧ k < 19 := ⟨d.toNat, by simp [okB] at ho; omega⟩
    obtain ⟨k, rfl, hk19⟩ := hd
    have HE : Kp (nameS k = nmA k) := ⟨by simp [nameS, ho]⟩
    have hk' : (k : Int) < 19 := by omega
    have hc := hk.nam k hk19
    clear ho hk hk19
    go_enter Tryd.func13, Tryd.ntmps13
    go_wp2_with fail
    refine (HI _).mono ?_
    rintro r w1 ⟨rfl, rfl⟩
    go_wp2_with fail
    go_ret
    exact ⟨by rw [HE.out]; rfl, rfl⟩
/-- The document's list of names. -/
abbrev nmObj : Obj := .cells nmV.toArray 9
theorem names_any (w : World) : Calls Tryd.prog 25 #[] w fun r w' => r = .returned (.slice (some ⟨w.heap.size, 0, none⟩) 19 19) ∧ w' = w.alloc nmObj := by
  have hbs : ∀ w : World, (Instr.buildSlice 54 19 #[(0, .string ⟨#[102, 114, 97, 109, 101, 115]⟩), (1, .string ⟨#[102, 111, 114, 109]⟩), (2, .string ⟨#[115, 116, 114, 97, 110, 103, 101, 114, 115]⟩), (3, .string ⟨#[116, 111, 108, 108, 115]⟩), (4, .string ⟨#[116, 97, 103, 115]⟩), (5, .string ⟨#[114, 101, 112, 108, 97, 121, 115]⟩), (6, .string ⟨#[104, 101, 108, 108, 111, 115]⟩), (7, .string ⟨#[117, 112, 100, 97, 116, 101, 115]⟩), (8, .string ⟨#[101, 110, 116, 114, 105, 101, 115]⟩), (9, .string ⟨#[115, 116, 97, 108, 101]⟩), (10, .string ⟨#[114, 111, 111, 116, 108, 101, 115, 115]⟩), (11, .string ⟨#[112, 114, 111, 111, 102, 115]⟩), (12, .string ⟨#[104, 101, 108, 100]⟩), (13, .string ⟨#[116, 97, 107, 101, 110]⟩), (14, .string ⟨#[114, 101, 110, 101, 119, 97, 108, 115]⟩), (15, .string ⟨#[115, 105, 103, 110, 115]⟩), (16, .string ⟨#[112, 105, 101, 99, 101, 115]⟩), (17, .string ⟨#[115, 101, 110, 116]⟩), (18, .string ⟨#[98, 114, 111, 107, 101, 110]⟩)]).run Tryd.prog w = .ok (.slice (some ⟨w.heap.size, 0, none⟩) 19 19) (w.alloc nmObj) := fun w => by kernel_rfl
  go_enter Tryd.func25, Tryd.ntmps25
  go_wp2_with (refine wpList_buildSlice_eq rfl 54 19 _ rfl #[(0, .string ⟨#[102, 114, 97, 109, 101, 115]⟩), (1, .string ⟨#[102, 111, 114, 109]⟩), (2, .string ⟨#[115, 116, 114, 97, 110, 103, 101, 114, 115]⟩), (3, .string ⟨#[116, 111, 108, 108, 115]⟩), (4, .string ⟨#[116, 97, 103, 115]⟩), (5, .string ⟨#[114, 101, 112, 108, 97, 121, 115]⟩), (6, .string ⟨#[104, 101, 108, 108, 111, 115]⟩), (7, .string ⟨#[117, 112, 100, 97, 116, 101, 115]⟩), (8, .string ⟨#[101, 110, 116, 114, 105, 101, 115]⟩), (9, .string ⟨#[115, 116, 97, 108, 101]⟩), (10, .string ⟨#[114, 111, 111, 116, 108, 101, 115, 115]⟩), (11, .string ⟨#[112, 114, 111, 111, 102, 115]⟩), (12, .string ⟨#[104, 101, 108, 100]⟩), (13, .string ⟨#[116, 97, 107, 101, 110]⟩), (14, .string ⟨#[114, 101, 110, 101, 119, 97, 108, 115]⟩), (15, .string ⟨#[115, 105, 103, 110, 115]⟩), (16, .string ⟨#[112, 105, 101, 99, 101, 115]⟩), (17, .string ⟨#[115, 101, 110, 116]⟩), (18, .string ⟨#[98, 114, 111, 107, 101, 110]⟩)] (by simp only [List.map_toArray, List.map_cons, List.map_nil]; rfl) (.slice (some ⟨w.heap.size, 0, none⟩) 19 19) (w.alloc nmObj) (hbs w) ?_)
  go_ret
  exact ⟨rfl, rfl⟩
set_option maxHeartbeats 1600000 in
theorem rname_any (d : Int) (w : World) : Calls Tryd.prog 14 #[.int .i64 d] w fun r w' => r = .returned (.string (nameS d)) ∧ Below w.heap.size w w' := by
  cases ho : okB d with
  | false =>
    have HE : Kp (nameS d = ⟨#[]⟩) := ⟨by simp [nameS, ho]⟩
    have hd : d < 0 ∨ ¬ d < 0 ∧ 19 ≤ d := by simp [okB] at ho; omega
    have HB : Kp (Below w.heap.size w w) := ⟨Below.refl _ _⟩
    clear ho
    rcases hd with hd | ⟨hd, hd2⟩
    all_goals
      go_enter Tryd.func14, Tryd.ntmps14
      go_wp2_with fail
      go_ret
      exact ⟨by rw [HE.out]; rfl, HB.out⟩
  | true =>
    have hd : ∃ k : Nat, d = k ∧ k < 19 := ⟨d.toNat, by simp [okB] at ho; omega⟩
    obtain ⟨k, rfl, hk19⟩ := hd
    have HE : Kp (nameS k = nmA k) := ⟨by simp [nameS, ho]⟩
    have hk' : (k : Int) < 19 := by omega
    have HK := Kp.mk hk19
    clear ho hk19
    go_enter Tryd.func14, Tryd.ntmps14
    go_wp2_with fail
    refine (names_any _).mono ?_
    rintro r w1 ⟨rfl, hw⟩
    have HB : Kp (Below w.heap.size w w1) := ⟨by rw [hw]; exact more (Below.refl _ _) _⟩
    have hc : w1.cell? ⟨w.heap.size, k, none⟩ = some (.string (nmA k)) := by
      rw [hw]
      exact ((Blk.new w nmObj).cell k).trans (by rw [List.getElem?_toArray, nmV_at HK.out])
    clear hw
    go_wp2_with fail
    go_ret
    exact ⟨by rw [HE.out]; rfl, HB.out⟩
/-- The counter of a name, from i on. -/
def whR (x : ByteArray) : Nat → Nat → Int
  | 0, _ => -1
  | n + 1, i => if ((nmA i).toList == x.toList) = true then i else whR x n (i + 1)
theorem whR_step (x : ByteArray) {i : Nat} (h : i < 19) : whR x (19 - i) i = if ((nmA i).toList == x.toList) = true then (i : Int) else whR x (19 - (i + 1)) (i + 1) := by
  rw [show 19 - i = (19 - (i + 1)) + 1 by omega]
  rfl
theorem index57 {i : Nat} (hi : i < 19) (w : World) : (Instr.index 57 (.agg nmV.toArray) (.int .i64 i)).run Tryd.prog w = .ok (.string (nmA i)) w := by
  have h : i = 0 ∨ i = 1 ∨ i = 2 ∨ i = 3 ∨ i = 4 ∨ i = 5 ∨ i = 6 ∨ i = 7 ∨ i = 8 ∨ i = 9 ∨ i = 10 ∨ i = 11 ∨ i = 12 ∨ i = 13 ∨ i = 14 ∨ i = 15 ∨ i = 16 ∨ i = 17 ∨ i = 18 := by omega
  clear hi
  rcases h with rfl | rfl | rfl | rfl | rfl | rfl | rfl | rfl | rfl | rfl | rfl | rfl | rfl | rfl | rfl | rfl | rfl | rfl | rfl
  all_goals (show _ = _; kernel_rfl)
theorem info57s : (Tryd.prog.info? 57).map (·.size) = some nmV.length := by kernel_rfl
set_option maxHeartbeats 3200000 in
theorem which_any (x : ByteArray) (w : World) (hk : Kon w) : Calls Tryd.prog 15 #[.string x] w fun r w' => r = .returned (.int .i64 (whR x 19 0)) ∧ w = w' := by
  have HR := Kp.mk hk.nam.range
  obtain ⟨N, hN⟩ : ∃ N, N = nmV := ⟨_, rfl⟩
  have HI : Kp (∀ {i : Nat}, i < 19 → ∀ w : World, (Instr.index 57 (.agg N.toArray) (.int .i64 i)).run Tryd.prog w = .ok (.string (nmA i)) w) := ⟨by rw [hN]; exact index57⟩
  have HS : Kp ((Tryd.prog.info? 57).map (·.size) = some N.length) := ⟨by rw [hN]; exact info57s⟩
  rw [← hN] at HR
  clear hk hN
  go_enter Tryd.func15, Tryd.ntmps15
  go_wp2_with (refine wpList_load_mid rfl 57 (.global 0) rfl 0 0 rfl N _ HR.out Tryd.underlying57 rfl HS.out ?_)
  go_loopw [6] (fun ct wr => ∃ i : Nat, i ≤ 19 ∧ ct = .int .i64 i ∧ whR x (19 - i) i = whR x 19 0 ∧ Kp (wr = w)) (fun ct _ => 19 - (intOf ct).toNat)
  case atStart => exact ⟨0, by omega, rfl, rfl, ⟨rfl⟩⟩
  case round =>
    obtain ⟨i, hi, rfl, hwh, ⟨rfl⟩⟩ := hrel
    by_cases hlt : i < 19
    · have hlt' : (i : Int) < 19 := by omega
      have hix := HI.out hlt
      have HST : Kp (whR x 19 0 = if ((nmA i).toList == x.toList) = true then (i : Int) else whR x (19 - (i + 1)) (i + 1)) := ⟨by rw [← hwh, whR_step x hlt]⟩
      clear hwh
      generalize nmA i = y at hix HST
      cases hc : (y.toList == x.toList) with
      | true =>
        have HF : Kp (whR x 19 0 = i) := ⟨by rw [HST.out, if_pos hc]⟩
        clear HST
        go_wp2_with fail
        go_ret
        exact ⟨by rw [HF.out]; rfl, rfl⟩
      | false =>
        have HF : Kp (whR x (19 - (i + 1)) (i + 1) = whR x 19 0) := ⟨by rw [HST.out, if_neg (by rw [hc]; simp)]⟩
        clear HST
        go_wp2_with fail
        exact ⟨⟨i + 1, by omega, by go_num, HF.out, ⟨by trivial⟩⟩, by simp [intOf]; omega⟩
    · have hi : i = 19 := by omega
      subst hi
      have HF : Kp (whR x 19 0 = -1) := ⟨hwh.symm⟩
      clear hwh hlt
      go_wp2_with fail
      go_ret
      exact ⟨by rw [HF.out]; rfl, rfl⟩
set_option maxHeartbeats 3200000 in
theorem rwhich_any (x : ByteArray) (w : World) : Calls Tryd.prog 16 #[.string x] w fun r w' => r = .returned (.int .i64 (whR x 19 0)) ∧ Below w.heap.size w w' := by
  obtain ⟨B, hB⟩ : ∃ B, B = w.heap.size := ⟨_, rfl⟩
  have HB := Kp.mk hB
  clear hB
  go_enter Tryd.func16, Tryd.ntmps16
  go_wp2_with fail
  refine (names_any _).mono ?_
  rintro r w1 ⟨rfl, hw⟩
  rw [← HB.out]
  have HW : Kp (Below B w w1 ∧ ∀ i, i < 19 → w1.cell? ⟨B, i, none⟩ = some (.string (nmA i))) := ⟨by
    rw [hw, HB.out]
    exact ⟨more (Below.refl _ _) _, fun i hi => ((Blk.new w nmObj).cell i).trans (by rw [List.getElem?_toArray, nmV_at hi])⟩⟩
  clear hw
  go_wp2_with fail
  go_loopw [4] (fun ct wr => ∃ i : Nat, i ≤ 19 ∧ ct = .int .i64 i ∧ whR x (19 - i) i = whR x 19 0 ∧ Kp (wr = w1)) (fun ct _ => 19 - (intOf ct).toNat)
  case atStart => exact ⟨0, by omega, rfl, rfl, ⟨rfl⟩⟩
  case round =>
    obtain ⟨i, hi, rfl, hwh, ⟨rfl⟩⟩ := hrel
    by_cases hlt : i < 19
    · have hlt' : (i : Int) < 19 := by omega
      have hc0 := HW.out.2 i hlt
      have HST : Kp (whR x 19 0 = if ((nmA i).toList == x.toList) = true then (i : Int) else whR x (19 - (i + 1)) (i + 1)) := ⟨by rw [← hwh, whR_step x hlt]⟩
      clear hwh
      generalize nmA i = y at hc0 HST
      cases hc : (y.toList == x.toList) with
      | true =>
        have HF : Kp (whR x 19 0 = i) := ⟨by rw [HST.out, if_pos hc]⟩
        clear HST
        go_wp2_with fail
        go_ret
        exact ⟨by rw [HF.out]; rfl, by rw [← HB.out]; exact HW.out.1⟩
      | false =>
        have HF : Kp (whR x (19 - (i + 1)) (i + 1) = whR x 19 0) := ⟨by rw [HST.out, if_neg (by rw [hc]; simp)]⟩
        clear HST
        go_wp2_with fail
        exact ⟨⟨i + 1, by omega, by go_num, HF.out, ⟨by trivial⟩⟩, by simp [intOf]; omega⟩
    · have hi : i = 19 := by omega
      subst hi
      have HF : Kp (whR x 19 0 = -1) := ⟨hwh.symm⟩
      clear hwh hlt
      go_wp2_with fail
      go_ret
      exact ⟨by rw [HF.out]; rfl, by rw [← HB.out]; exact HW.out.1⟩
set_option maxHeartbeats 3200000 in
theorem of_any (e : Int) (w : World) : Calls Tryd.prog 17 #[.int .i64 e] w fun r w' => r = .returned (.int .i64 (ofE e)) ∧ w = w' := by
  by_cases h10 : e = 10
  · subst h10
    have HE : Kp (ofE 10 = 1) := ⟨by decide⟩
    go_enter Tryd.func17, Tryd.ntmps17
    go_wp2_with fail
    go_ret
    exact ⟨by rw [HE.out]; rfl, rfl⟩
  by_cases h9 : e = 9
  · subst h9
    have HE : Kp (ofE 9 = 1) := ⟨by decide⟩
    go_enter Tryd.func17, Tryd.ntmps17
    go_wp2_with fail
    go_ret
    exact ⟨by rw [HE.out]; rfl, rfl⟩
  by_cases h8 : e = 8
  · subst h8
    have HE : Kp (ofE 8 = 1) := ⟨by decide⟩
    go_enter Tryd.func17, Tryd.ntmps17
    go_wp2_with fail
    go_ret
    exact ⟨by rw [HE.out]; rfl, rfl⟩
  by_cases h1 : e = 1
  · subst h1
    have HE : Kp (ofE 1 = 1) := ⟨by decide⟩
    go_enter Tryd.func17, Tryd.ntmps17
    go_wp2_with fail
    go_ret
    exact ⟨by rw [HE.out]; rfl, rfl⟩
  by_cases h7 : e = 7
  · subst h7
    have HE : Kp (ofE 7 = 1) := ⟨by decide⟩
    go_enter Tryd.func17, Tryd.ntmps17
    go_wp2_with fail
    go_ret
    exact ⟨by rw [HE.out]; rfl, rfl⟩
  by_cases h29 : e = 29
  · subst h29
    have HE : Kp (ofE 29 = 2) := ⟨by decide⟩
    go_enter Tryd.func17, Tryd.ntmps17
    go_wp2_with fail
    go_ret
    exact ⟨by rw [HE.out]; rfl, rfl⟩
  by_cases h26 : e = 26
  · subst h26
    have HE : Kp (ofE 26 = 3) := ⟨by decide⟩
    go_enter Tryd.func17, Tryd.ntmps17
    go_wp2_with fail
    go_ret
    exact ⟨by rw [HE.out]; rfl, rfl⟩
  by_cases h24 : e = 24
  · subst h24
    have HE : Kp (ofE 24 = 4) := ⟨by decide⟩
    go_enter Tryd.func17, Tryd.ntmps17
    go_wp2_with fail
    go_ret
    exact ⟨by rw [HE.out]; rfl, rfl⟩
  by_cases h25 : e = 25
  · subst h25
    have HE : Kp (ofE 25 = 5) := ⟨by decide⟩
    go_enter Tryd.func17, Tryd.ntmps17
    go_wp2_with fail
    go_ret
    exact ⟨by rw [HE.out]; rfl, rfl⟩
  by_cases h27 : e = 27
  · subst h27
    have HE : Kp (ofE 27 = 9) := ⟨by decide⟩
    go_enter Tryd.func17, Tryd.ntmps17
    go_wp2_with fail
    go_ret
    exact ⟨by rw [HE.out]; rfl, rfl⟩
  by_cases h3 : e = 3
  · subst h3
    have HE : Kp (ofE 3 = 9) := ⟨by decide⟩
    go_enter Tryd.func17, Tryd.ntmps17
    go_wp2_with fail
    go_ret
    exact ⟨by rw [HE.out]; rfl, rfl⟩
  by_cases h22 : e = 22
  · subst h22
    have HE : Kp (ofE 22 = 11) := ⟨by decide⟩
    go_enter Tryd.func17, Tryd.ntmps17
    go_wp2_with fail
    go_ret
    exact ⟨by rw [HE.out]; rfl, rfl⟩
  by_cases h28 : e = 28
  · subst h28
    have HE : Kp (ofE 28 = 12) := ⟨by decide⟩
    go_enter Tryd.func17, Tryd.ntmps17
    go_wp2_with fail
    go_ret
    exact ⟨by rw [HE.out]; rfl, rfl⟩
  by_cases h23 : e = 23
  · subst h23
    have HE : Kp (ofE 23 = 15) := ⟨by decide⟩
    go_enter Tryd.func17, Tryd.ntmps17
    go_wp2_with fail
    go_ret
    exact ⟨by rw [HE.out]; rfl, rfl⟩
  by_cases h6 : e = 6
  · subst h6
    have HE : Kp (ofE 6 = 10) := ⟨by decide⟩
    go_enter Tryd.func17, Tryd.ntmps17
    go_wp2_with fail
    go_ret
    exact ⟨by rw [HE.out]; rfl, rfl⟩
  have b10 : (e == 10) = false := by simp [h10]
  have b9 : (e == 9) = false := by simp [h9]
  have b8 : (e == 8) = false := by simp [h8]
  have b1 : (e == 1) = false := by simp [h1]
  have b7 : (e == 7) = false := by simp [h7]
  have b29 : (e == 29) = false := by simp [h29]
  have b26 : (e == 26) = false := by simp [h26]
  have b24 : (e == 24) = false := by simp [h24]
  have b25 : (e == 25) = false := by simp [h25]
  have b27 : (e == 27) = false := by simp [h27]
  have b3 : (e == 3) = false := by simp [h3]
  have b22 : (e == 22) = false := by simp [h22]
  have b28 : (e == 28) = false := by simp [h28]
  have b23 : (e == 23) = false := by simp [h23]
  have b6 : (e == 6) = false := by simp [h6]
  have HE : Kp (ofE e = -1) := ⟨by unfold ofE; simp [h10, h9, h8, h1, h7, h29, h26, h24, h25, h27, h3, h22, h28, h23, h6]⟩
  clear h10 h9 h8 h1 h7 h29 h26 h24 h25 h27 h3 h22 h28 h23 h6
  go_enter Tryd.func17, Tryd.ntmps17
  go_wp2_with fail
  go_ret
  exact ⟨by rw [HE.out]; rfl, rfl⟩
set_option maxHeartbeats 3200000 in
theorem rof_any (e : Int) (w : World) : Calls Tryd.prog 18 #[.int .i64 e] w fun r w' => r = .returned (.int .i64 (ofE e)) ∧ w = w' := by
  by_cases h10 : e = 10
  · subst h10
    have HE : Kp (ofE 10 = 1) := ⟨by decide⟩
    go_enter Tryd.func18, Tryd.ntmps18
    go_wp2_with fail
    go_ret
    exact ⟨by rw [HE.out]; rfl, rfl⟩
  by_cases h9 : e = 9
  · subst h9
    have HE : Kp (ofE 9 = 1) := ⟨by decide⟩
    go_enter Tryd.func18, Tryd.ntmps18
    go_wp2_with fail
    go_ret
    exact ⟨by rw [HE.out]; rfl, rfl⟩
  by_cases h8 : e = 8
  · subst h8
    have HE : Kp (ofE 8 = 1) := ⟨by decide⟩
    go_enter Tryd.func18, Tryd.ntmps18
    go_wp2_with fail
    go_ret
    exact ⟨by rw [HE.out]; rfl, rfl⟩
  by_cases h1 : e = 1
  · subst h1
    have HE : Kp (ofE 1 = 1) := ⟨by decide⟩
    go_enter Tryd.func18, Tryd.ntmps18
    go_wp2_with fail
    go_ret
    exact ⟨by rw [HE.out]; rfl, rfl⟩
  by_cases h7 : e = 7
  · subst h7
    have HE : Kp (ofE 7 = 1) := ⟨by decide⟩
    go_enter Tryd.func18, Tryd.ntmps18
    go_wp2_with fail
    go_ret
    exact ⟨by rw [HE.out]; rfl, rfl⟩
  by_cases h29 : e = 29
  · subst h29
    have HE : Kp (ofE 29 = 2) := ⟨by decide⟩
    go_enter Tryd.func18, Tryd.ntmps18
    go_wp2_with fail
    go_ret
    exact ⟨by rw [HE.out]; rfl, rfl⟩
  by_cases h26 : e = 26
  · subst h26
    have HE : Kp (ofE 26 = 3) := ⟨by decide⟩
    go_enter Tryd.func18, Tryd.ntmps18
    go_wp2_with fail
    go_ret
    exact ⟨by rw [HE.out]; rfl, rfl⟩
  by_cases h24 : e = 24
  · subst h24
    have HE : Kp (ofE 24 = 4) := ⟨by decide⟩
    go_enter Tryd.func18, Tryd.ntmps18
    go_wp2_with fail
    go_ret
    exact ⟨by rw [HE.out]; rfl, rfl⟩
  by_cases h25 : e = 25
  · subst h25
    have HE : Kp (ofE 25 = 5) := ⟨by decide⟩
    go_enter Tryd.func18, Tryd.ntmps18
    go_wp2_with fail
    go_ret
    exact ⟨by rw [HE.out]; rfl, rfl⟩
  by_cases h27 : e = 27
  · subst h27
    have HE : Kp (ofE 27 = 9) := ⟨by decide⟩
    go_enter Tryd.func18, Tryd.ntmps18
    go_wp2_with fail
    go_ret
    exact ⟨by rw [HE.out]; rfl, rfl⟩
  by_cases h3 : e = 3
  · subst h3
    have HE : Kp (ofE 3 = 9) := ⟨by decide⟩
    go_enter Tryd.func18, Tryd.ntmps18
    go_wp2_with fail
    go_ret
    exact ⟨by rw [HE.out]; rfl, rfl⟩
  by_cases h22 : e = 22
  · subst h22
    have HE : Kp (ofE 22 = 11) := ⟨by decide⟩
    go_enter Tryd.func18, Tryd.ntmps18
    go_wp2_with fail
    go_ret
    exact ⟨by rw [HE.out]; rfl, rfl⟩
  by_cases h28 : e = 28
  · subst h28
    have HE : Kp (ofE 28 = 12) := ⟨by decide⟩
    go_enter Tryd.func18, Tryd.ntmps18
    go_wp2_with fail
    go_ret
    exact ⟨by rw [HE.out]; rfl, rfl⟩
  by_cases h23 : e = 23
  · subst h23
    have HE : Kp (ofE 23 = 15) := ⟨by decide⟩
    go_enter Tryd.func18, Tryd.ntmps18
    go_wp2_with fail
    go_ret
    exact ⟨by rw [HE.out]; rfl, rfl⟩
  by_cases h6 : e = 6
  · subst h6
    have HE : Kp (ofE 6 = 10) := ⟨by decide⟩
    go_enter Tryd.func18, Tryd.ntmps18
    go_wp2_with fail
    go_ret
    exact ⟨by rw [HE.out]; rfl, rfl⟩
  have b10 : (e == 10) = false := by simp [h10]
  have b9 : (e == 9) = false := by simp [h9]
  have b8 : (e == 8) = false := by simp [h8]
  have b1 : (e == 1) = false := by simp [h1]
  have b7 : (e == 7) = false := by simp [h7]
  have b29 : (e == 29) = false := by simp [h29]
  have b26 : (e == 26) = false := by simp [h26]
  have b24 : (e == 24) = false := by simp [h24]
  have b25 : (e == 25) = false := by simp [h25]
  have b27 : (e == 27) = false := by simp [h27]
  have b3 : (e == 3) = false := by simp [h3]
  have b22 : (e == 22) = false := by simp [h22]
  have b28 : (e == 28) = false := by simp [h28]
  have b23 : (e == 23) = false := by simp [h23]
  have b6 : (e == 6) = false := by simp [h6]
  have HE : Kp (ofE e = -1) := ⟨by unfold ofE; simp [h10, h9, h8, h1, h7, h29, h26, h24, h25, h27, h3, h22, h28, h23, h6]⟩
  clear h10 h9 h8 h1 h7 h29 h26 h24 h25 h27 h3 h22 h28 h23 h6
  go_enter Tryd.func18, Tryd.ntmps18
  go_wp2_with fail
  go_ret
  exact ⟨by rw [HE.out]; rfl, rfl⟩
end Go.Proofs.YtlinkcbnjdelcaaDoor
