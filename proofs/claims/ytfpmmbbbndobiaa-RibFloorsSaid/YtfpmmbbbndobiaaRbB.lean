/-
  Rows of opaque cells; the contracts of the small calls.
-/
import Derived.Test.YtfpmmbbbndobiaaRbA
import Derived.Deep.MidRow
import Derived.Deep.WholeRow
import Derived.Deep.Cut
namespace Go.Proofs.Ytfpmmbbbndobiaa
open Go.RowKit

theorem alloc_row {P : Program} {t : TypeId} {cs : Array Value} {n : Nat} (hi : (P.info? t).map (fun i => (i.zero, i.size)) = some (some (.agg cs), n)) (old : Value) (w : World) :
    (Instr.alloc t true old).run P w = .ok (.pointer (some ⟨w.heap.size, 0, none⟩)) (w.alloc (.cells cs t)) := by
  cases hq : P.info? t with
  | none => simp [hq] at hi
  | some i =>
    have hz : i.zero = some (.agg cs) := by simp [hq] at hi; exact hi.1
    unfold Instr.alloc
    simp [zeroValue, typeInfo, hq, hz, newVar, newRow, Value.cells]
theorem wpList_alloc_row {P : Program} {ops : Array Oper} {rest : List Oper} {o : Oper} {a : Act} {w : World} {Q : Exit → Act → World → Prop} (hg : o.guard = none) (t : TypeId) (ho : o.op = .alloc t)
    (cs : Array Value) (n : Nat) (hi : (P.info? t).map (fun i => (i.zero, i.size)) = some (some (.agg cs), n))
    (h : wpList P ops Q rest (a.put o.dst (.pointer (some ⟨w.heap.size, 0, none⟩))) (w.alloc (.cells cs t))) : wpList P ops Q (o :: rest) a w := by
  refine wpList_plain hg fun _ hK => ?_
  unfold Oper.wp execOp
  simp only [ho, Sem.run_bind, alloc_row hi, Result.andThen_ok, Sem.run_pure]
  exact hK _ _ h
theorem box_row {t : TypeId} {cs : List Value} (h1 : (Try.prog.info? t).map (·.size) = some cs.toArray.size) (w : World) : (Instr.box t (.agg cs.toArray)).run Try.prog w = .ok (.pointer (some ⟨w.heap.size, 0, none⟩)) (w.alloc (.cells cs.toArray t)) := by
  cases hq : Try.prog.info? t with
  | none => simp [hq] at h1
  | some i =>
    have hi : i.size = cs.toArray.size := by simpa [hq] using h1
    simp [Instr.box, newVar, sizeOf, typeInfo, hq, hi, Value.cells, newRow]
theorem wpList_box_eq {P : Program} {w : World} {ops : Array Oper} {rest : List Oper} {o : Oper} {a : Act} {Q : Exit → Act → World → Prop} (hg : o.guard = none) (t : TypeId) (x : Operand) (ho : o.op = .box t x)
    (u : Value) (hx : a.eval x = u) (v : Value) (w' : World) (hrun : (Instr.box t u).run P w = .ok v w') (h : wpList P ops Q rest (a.put o.dst v) w') : wpList P ops Q (o :: rest) a w := by
  subst hx
  refine wpList_plain hg fun _ hK => ?_
  unfold Oper.wp execOp
  simp only [ho, Sem.run_bind, hrun, Result.andThen_ok]
  exact hK _ _ h
theorem Turn.cells {b : Nat} {t : TypeId} {w : World} : ∀ (vs : List Value) (o : Nat) (w' : World) (C : List Value), o + vs.length ≤ C.length → Turn b (.cells C.toArray t) w w' → Turn b (.cells (splice C o vs).toArray t) w (w'.setCells b o vs)
  | [], o, w', C, _, h => by
    have e : splice C o [] = C := by simp [splice]
    rw [e]
    exact h
  | v :: r, o, w', C, hl, h => by
    have h0 := h.set o v
    rw [List.setIfInBounds_toArray] at h0
    have h1 := Turn.cells r (o + 1) _ (C.set o v) (by simp at hl ⊢; omega) h0
    have e : splice (C.set o v) (o + 1) r = splice C o (v :: r) := by
      simp at hl
      unfold splice
      have e1 : (C.set o v).take (o + 1) = C.take o ++ [v] := by
        rw [List.take_add_one, List.take_set_of_le (Nat.le_refl o)]
        simp [List.getElem?_set_self (show o < C.length by omega)]
      have e2 : (C.set o v).drop (o + 1 + r.length) = C.drop (o + 1 + r.length) := List.drop_set_of_lt (by omega)
      rw [e1, e2, List.append_assoc, List.singleton_append, List.cons_append, List.length_cons, show o + 1 + r.length = o + (r.length + 1) by omega]
    rw [e] at h1
    exact h1
theorem wpl_world {P : Program} {ops : Array Oper} {l : List Oper} {Q : Exit → Act → World → Prop} {a : Act} {w : World} (F : World → Prop) (hF : F w) (h : ∀ w2, F w2 → wpList P ops Q l a w2) : wpList P ops Q l a w := h w hF
theorem exec_load_mid {P : Program} {o : Oper} {a : Act} {w : World} {ty : TypeId} {x : Operand} {b off : Nat} {cs : List Value} {d : TypeDesc} (ho : o.op = .load ty x) (hx : a.eval x = .pointer (some ⟨b, off, none⟩)) (hc : w.rangeAt b off cs)
    (hu : P.underlying ty = some d) (hd : d.isRow = true) (hi : (P.info? ty).map (·.size) = some cs.length) : (execOp a.eval o).run P w = .ok (.value (.agg cs.toArray)) w := by
  unfold execOp
  simp only [ho, hx, Instr.loadAt, Instr.sureAddr, Sem.run_bind, Sem.run_pure, Result.andThen_ok, run_loadVar_mid w b off ty cs d hc hu hd hi]
theorem Blk.range {w : World} {b : Nat} {t : TypeId} {cs l : List Value} (h : Blk w b (.cells cs.toArray t)) {o : Nat} (hl : (cs.drop o).take l.length = l) : w.rangeAt b o l := fun j v hv => by
  have hj : j < l.length := (List.getElem?_eq_some_iff.1 hv).1
  rw [h.cell (o + j), List.getElem?_toArray, ← hv, ← hl, List.getElem?_take, if_pos hj, List.getElem?_drop]
theorem Blk.there {w : World} {b : Nat} {t : TypeId} {cs : List Value} (h : Blk w b (.cells cs.toArray t)) {o n : Nat} (hl : o + n ≤ cs.length) : w.there b o n := fun j hj =>
  ⟨by rw [h.cell (o + j), List.getElem?_toArray, List.getElem?_eq_getElem (by omega)]; rfl, h.frozen (o + j)⟩
theorem Below.drewNs {B : Nat} {w w1 : World} (h : Below B w w1) (n : Nat) : Below B w (w1.drewN n) := ⟨h.os, h.tape, h.output, h.size, h.block⟩
theorem kc_one (k : K3) : ∀ v ∈ kc k, v.oneCell' = true := by intro v hv; simp [kc] at hv; rcases hv with h | h | h <;> subst h <;> rfl
theorem elc_one (f : Nat → Int) : ∀ v ∈ elc f, v.oneCell' = true := by intro v hv; simp only [elc, List.mem_cons, List.not_mem_nil, or_false] at hv; rcases hv with h | h | h | h | h | h | h | h | h | h | h | h | h | h | h | h <;> subst h <;> rfl
theorem knc_one (x : KV) : ∀ v ∈ knc x, v.oneCell' = true := by
  intro v hv
  simp only [knc, List.mem_cons, List.mem_append, List.not_mem_nil, or_false] at hv
  rcases hv with h | h | h | h
  · subst h; rfl
  · exact kc_one _ _ (by simpa [kc] using h)
  · exact elc_one _ _ h
  · subst h; rfl
theorem owc_one (o : OW) : ∀ v ∈ owc o, v.oneCell' = true := by
  intro v hv
  simp only [owc, List.mem_cons, List.mem_append] at hv
  rcases hv with h | h | h | h | h
  · subst h; rfl
  · subst h; rfl
  · exact knc_one _ _ h
  · subst h; rfl
  · exact kc_one _ _ (by simpa [kc] using h)
theorem info101s (o : OW) : (Try.prog.info? 101).map (·.size) = some (owc o).toArray.size := by kernel_rfl
theorem info51s (x : KV) : (Try.prog.info? 51).map (·.size) = some (knc x).toArray.size := by kernel_rfl
theorem info105s (T : TB) : (Try.prog.info? 105).map (·.size) = some (tc T).toArray.size := by rw [List.size_toArray, tc_len]; kernel_rfl
abbrev OW.obj (o : OW) : Obj := .cells (owc o).toArray 101
abbrev KV.obj (x : KV) : Obj := .cells (knc x).toArray 51
abbrev TB.obj (T : TB) : Obj := .cells (tc T).toArray 105
/-- Orders. -/
def ndB (n : Int) : Bool := decide (0 ≤ n ∧ n < 8)
def tmB (t : Int) : Bool := decide (0 ≤ t ∧ t ≤ 1099511627776)
def krB (k : K3) : Bool := decide (k.e ≤ 65536 ∧ k.s < 64 ∧ 0 ≤ k.m ∧ k.m ≤ 15)
def nwB (a b : K3) : Bool := decide (b.e < a.e ∨ a.e = b.e ∧ b.s < a.s)
def rtB (h l : Int) : Bool := decide (0 ≤ h ∧ h ≤ 1048576 ∧ 1 ≤ l ∧ l ≤ 1048576)
def cmpI (a b : Int) : Int := if a < b then -1 else if b < a then 1 else 0
def cmpK (a b : K3) : Int := if cmpI a.e b.e ≠ 0 then cmpI a.e b.e else if cmpI a.s b.s ≠ 0 then cmpI a.s b.s else cmpI b.m a.m
def beB (a b : OW) : Bool := a.stands && (!b.stands || decide (0 < cmpK a.kn.k b.kn.k))
theorem node_any (n : Int) (w : World) : Calls Try.prog 38 #[.int .i64 n] w fun r w' => r = .returned (.bool (ndB n)) ∧ w = w' := by
  go_enter Try.func38, Try.ntmps38
  go_wp2
  all_goals (go_ret; refine ⟨retb (Bool.eq_iff_iff.2 ?_), rfl⟩)
  all_goals (unfold ndB; simp only [decide_eq_true_eq, Bool.false_eq_true, false_iff]; omega)
theorem time_any (t : Int) (w : World) : Calls Try.prog 42 #[.int .i64 t] w fun r w' => r = .returned (.bool (tmB t)) ∧ w = w' := by
  go_enter Try.func42, Try.ntmps42
  go_wp2
  all_goals (go_ret; refine ⟨retb (Bool.eq_iff_iff.2 ?_), rfl⟩)
  all_goals (unfold tmB; simp only [decide_eq_true_eq, Bool.false_eq_true, false_iff]; omega)
theorem kright_any (k : K3) (w : World) : Calls Try.prog 41 #[keyV k] w fun r w' => r = .returned (.bool (krB k)) ∧ Below w.heap.size w w' := by
  obtain ⟨e, s, m⟩ := k
  go_enter Try.func41, Try.ntmps41
  go_wp2
  all_goals (go_ret; refine ⟨retb (Bool.eq_iff_iff.2 ?_), more (Below.refl _ _) _⟩)
  all_goals (unfold krB; simp only [decide_eq_true_eq, Bool.false_eq_true, false_iff]; omega)
theorem rkright_any (k : K3) (w : World) : Calls Try.prog 35 #[keyV k] w fun r w' => r = .returned (.bool (krB k)) ∧ Below w.heap.size w w' := by
  obtain ⟨e, s, m⟩ := k
  go_enter Try.func35, Try.ntmps35
  go_wp2
  all_goals (go_ret; refine ⟨retb (Bool.eq_iff_iff.2 ?_), more (Below.refl _ _) _⟩)
  all_goals (unfold krB; simp only [decide_eq_true_eq, Bool.false_eq_true, false_iff]; omega)
theorem right_any (h l : Int) (w : World) : Calls Try.prog 9 #[.agg #[.int .i64 h, .int .i64 l]] w fun r w' => r = .returned (.bool (rtB h l)) ∧ Below w.heap.size w w' := by
  go_enter Try.func9, Try.ntmps9
  go_wp2
  all_goals (go_ret; refine ⟨retb (Bool.eq_iff_iff.2 ?_), more (Below.refl _ _) _⟩)
  all_goals (unfold rtB; simp only [decide_eq_true_eq, Bool.false_eq_true, false_iff]; omega)
theorem rright_any (h l : Int) (w : World) : Calls Try.prog 10 #[.agg #[.int .i64 h, .int .i64 l]] w fun r w' => r = .returned (.bool (rtB h l)) ∧ Below w.heap.size w w' := by
  go_enter Try.func10, Try.ntmps10
  go_wp2
  all_goals (go_ret; refine ⟨retb (Bool.eq_iff_iff.2 ?_), more (Below.refl _ _) _⟩)
  all_goals (unfold rtB; simp only [decide_eq_true_eq, Bool.false_eq_true, false_iff]; omega)
theorem kto_any (k : K3) (w : World) : Calls Try.prog 15 #[keyV k] w fun r w' => r = .returned (keyV k) ∧ Below w.heap.size w w' := by
  obtain ⟨e, s, m⟩ := k
  go_enter Try.func15, Try.ntmps15
  go_wp2
  refine bodyPost_ret (v := keyV ⟨e, s, m⟩) (by simp [results, Try.results15, go_sem]) rfl ⟨rfl, more (more (Below.refl _ _) _) _⟩
theorem newer_any (a b : K3) (w : World) : Calls Try.prog 43 #[keyV a, keyV b] w fun r w' => r = .returned (.bool (nwB a b)) ∧ Below w.heap.size w w' := by
  obtain ⟨e, s, m⟩ := a
  obtain ⟨e', s', m'⟩ := b
  by_cases h1 : e' < e
  · go_enter Try.func43, Try.ntmps43
    go_wp2
    go_ret
    exact ⟨retb (by simp [nwB, h1]), more (more (Below.refl _ _) _) _⟩
  · by_cases h2 : e = e'
    · subst h2
      go_enter Try.func43, Try.ntmps43
      go_wp2
      go_ret
      exact ⟨retb (by simp [nwB]), more (more (Below.refl _ _) _) _⟩
    · have h2' : (e == e') = false := by simpa using h2
      have HV : Kp (nwB ⟨e, s, m⟩ ⟨e', s', m'⟩ = false) := ⟨by simp [nwB, h1, h2]⟩
      go_enter Try.func43, Try.ntmps43
      go_wp2
      go_ret
      exact ⟨retb HV.out.symm, more (more (Below.refl _ _) _) _⟩
theorem rnewer_any (a b : K3) (w : World) : Calls Try.prog 37 #[keyV a, keyV b] w fun r w' => r = .returned (.bool (nwB a b)) ∧ Below w.heap.size w w' := by
  obtain ⟨e, s, m⟩ := a
  obtain ⟨e', s', m'⟩ := b
  by_cases h1 : e' < e
  · go_enter Try.func37, Try.ntmps37
    go_wp2
    go_ret
    exact ⟨retb (by simp [nwB, h1]), more (more (Below.refl _ _) _) _⟩
  · by_cases h2 : e = e'
    · subst h2
      go_enter Try.func37, Try.ntmps37
      go_wp2
      go_ret
      exact ⟨retb (by simp [nwB]), more (more (Below.refl _ _) _) _⟩
    · have h2' : (e == e') = false := by simpa using h2
      have HV : Kp (nwB ⟨e, s, m⟩ ⟨e', s', m'⟩ = false) := ⟨by simp [nwB, h1, h2]⟩
      go_enter Try.func37, Try.ntmps37
      go_wp2
      go_ret
      exact ⟨retb HV.out.symm, more (more (Below.refl _ _) _) _⟩
theorem nan_u32 (a : Int) (w : World) : Calls Try.prog 63 #[.int .u32 a] w fun r w' => r = .returned (.bool false) ∧ w = w' := by
  go_enter Try.func63, Try.ntmps63
  go_wp2
  go_ret
  exact ⟨rfl, rfl⟩
theorem cmp_u32 (a b : Int) (w : World) : Calls Try.prog 58 #[.int .u32 a, .int .u32 b] w fun r w' => r = .returned (.int .i64 (cmpI a b)) ∧ w = w' := by
  have H1 : Kp (a < b → cmpI a b = -1) := ⟨fun h => by unfold cmpI; rw [if_pos h]⟩
  have H2 : Kp (¬ a < b → b < a → cmpI a b = 1) := ⟨fun h h2 => by unfold cmpI; rw [if_neg h, if_pos h2]⟩
  have H3 : Kp (¬ a < b → ¬ b < a → cmpI a b = 0) := ⟨fun h h2 => by unfold cmpI; rw [if_neg h, if_neg h2]⟩
  by_cases h1 : a < b
  · have HX := Kp.mk (H1.out h1)
    go_enter Try.func58, Try.ntmps58
    go_wp2_with (go_at_call 63; refine (nan_u32 _ _).mono ?_; rintro r w1 ⟨rfl, rfl⟩)
    go_ret
    exact ⟨reti HX.out.symm, rfl⟩
  · by_cases h2 : b < a
    · have HX := Kp.mk (H2.out h1 h2)
      have h1' : b ≤ a := by omega
      clear h1
      go_enter Try.func58, Try.ntmps58
      go_wp2_with (go_at_call 63; refine (nan_u32 _ _).mono ?_; rintro r w1 ⟨rfl, rfl⟩)
      go_ret
      exact ⟨reti HX.out.symm, rfl⟩
    · have HX := Kp.mk (H3.out h1 h2)
      have h1' : b ≤ a := by omega
      have h2' : a ≤ b := by omega
      clear h1 h2
      go_enter Try.func58, Try.ntmps58
      go_wp2_with (go_at_call 63; refine (nan_u32 _ _).mono ?_; rintro r w1 ⟨rfl, rfl⟩)
      go_ret
      exact ⟨reti HX.out.symm, rfl⟩
theorem nan_i64 (a : Int) (w : World) : Calls Try.prog 64 #[.int .i64 a] w fun r w' => r = .returned (.bool false) ∧ w = w' := by
  go_enter Try.func64, Try.ntmps64
  go_wp2
  go_ret
  exact ⟨rfl, rfl⟩
theorem cmp_i64 (a b : Int) (w : World) : Calls Try.prog 59 #[.int .i64 a, .int .i64 b] w fun r w' => r = .returned (.int .i64 (cmpI a b)) ∧ w = w' := by
  have H1 : Kp (a < b → cmpI a b = -1) := ⟨fun h => by unfold cmpI; rw [if_pos h]⟩
  have H2 : Kp (¬ a < b → b < a → cmpI a b = 1) := ⟨fun h h2 => by unfold cmpI; rw [if_neg h, if_pos h2]⟩
  have H3 : Kp (¬ a < b → ¬ b < a → cmpI a b = 0) := ⟨fun h h2 => by unfold cmpI; rw [if_neg h, if_neg h2]⟩
  by_cases h1 : a < b
  · have HX := Kp.mk (H1.out h1)
    go_enter Try.func59, Try.ntmps59
    go_wp2_with (go_at_call 64; refine (nan_i64 _ _).mono ?_; rintro r w1 ⟨rfl, rfl⟩)
    go_ret
    exact ⟨reti HX.out.symm, rfl⟩
  · by_cases h2 : b < a
    · have HX := Kp.mk (H2.out h1 h2)
      have h1' : b ≤ a := by omega
      clear h1
      go_enter Try.func59, Try.ntmps59
      go_wp2_with (go_at_call 64; refine (nan_i64 _ _).mono ?_; rintro r w1 ⟨rfl, rfl⟩)
      go_ret
      exact ⟨reti HX.out.symm, rfl⟩
    · have HX := Kp.mk (H3.out h1 h2)
      have h1' : b ≤ a := by omega
      have h2' : a ≤ b := by omega
      clear h1 h2
      go_enter Try.func59, Try.ntmps59
      go_wp2_with (go_at_call 64; refine (nan_i64 _ _).mono ?_; rintro r w1 ⟨rfl, rfl⟩)
      go_ret
      exact ⟨reti HX.out.symm, rfl⟩
theorem compare_any (a b : K3) (w : World) : Calls Try.prog 34 #[keyV a, keyV b] w fun r w' => r = .returned (.int .i64 (cmpK a b)) ∧ Below w.heap.size w w' := by
  have HB : Kp (∀ o o', Below w.heap.size w ((w.alloc o).alloc o')) := ⟨fun o o' => more (more (Below.refl _ _) _) _⟩
  obtain ⟨X, hX⟩ : ∃ X, X = cmpI a.e b.e := ⟨_, rfl⟩
  obtain ⟨Y, hY⟩ : ∃ Y, Y = cmpI a.s b.s := ⟨_, rfl⟩
  obtain ⟨V, hV⟩ : ∃ V, V = cmpI b.m a.m := ⟨_, rfl⟩
  have HX := Kp.mk (And.intro hX (And.intro hY hV))
  have HK : Kp (cmpK a b = if X ≠ 0 then X else if Y ≠ 0 then Y else V) := ⟨by rw [hX, hY, hV]; rfl⟩
  clear hX hY hV
  obtain ⟨e, s, m⟩ := a
  obtain ⟨e', s', m'⟩ := b
  go_enter Try.func34, Try.ntmps34
  go_wp2_with fail
  refine (cmp_u32 e e' _).mono ?_
  rintro r w1 ⟨rfl, rfl⟩
  rw [show cmpI e e' = X from HX.out.1.symm]
  by_cases h1 : X = 0
  · have h1' : (X != 0) = false := by simp [h1]
    go_wp2_with fail
    refine (cmp_u32 s s' _).mono ?_
    rintro r w1 ⟨rfl, rfl⟩
    rw [show cmpI s s' = Y from HX.out.2.1.symm]
    by_cases h2 : Y = 0
    · have h2' : (Y != 0) = false := by simp [h2]
      have HV : Kp (cmpK ⟨e, s, m⟩ ⟨e', s', m'⟩ = V) := ⟨by rw [HK.out]; simp [h1, h2]⟩
      clear h1 h2
      go_wp2_with fail
      refine (cmp_i64 m' m _).mono ?_
      rintro r w1 ⟨rfl, rfl⟩
      rw [show cmpI m' m = V from HX.out.2.2.symm]
      go_wp2_with fail
      go_ret
      exact ⟨reti HV.out.symm, HB.out _ _⟩
    · have h2' : (Y != 0) = true := by simp [h2]
      have HV : Kp (cmpK ⟨e, s, m⟩ ⟨e', s', m'⟩ = Y) := ⟨by rw [HK.out]; simp [h1, h2]⟩
      clear h1 h2
      go_wp2_with fail
      go_ret
      exact ⟨reti HV.out.symm, HB.out _ _⟩
  · have h1' : (X != 0) = true := by simp [h1]
    have HV : Kp (cmpK ⟨e, s, m⟩ ⟨e', s', m'⟩ = X) := ⟨by rw [HK.out]; simp [h1]⟩
    clear h1
    go_wp2_with fail
    go_ret
    exact ⟨reti HV.out.symm, HB.out _ _⟩
end Go.Proofs.Ytfpmmbbbndobiaa
