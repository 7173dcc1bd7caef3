/-
  slate.Crash.
-/
import Derived.Test.YtgikedbnnlckjaaSlF
namespace Go.Proofs.Ytgikedbnnlckjaa
open Go.RowKit

theorem Turn.row {b : Nat} {cs : Array Value} {t : TypeId} {fr : Nat × Nat} {w w' : World} (h : Turn b (.cells cs t fr) w w') (cs' : Array Value) : Turn b (.cells cs' t fr) w (w'.setRow b cs') :=
  ⟨h.os, h.tape, h.output, by simpa [World.setRow] using h.size, setRow_heap w' b cs cs' t fr h.blk, fun k hk hne => by
    unfold World.setRow
    rw [Array.getElem?_modify, if_neg (by omega)]
    exact h.other k hk hne⟩
theorem step_copy_turn {P : Program} {ops : Array Oper} {o : Oper} {a : Act} {w : World} {K : Act → World → Prop} {Q : Exit → Act → World → Prop} {E : Prop} (hgd : o.guard = none) (d s : Operand) (dT sT : TypeId)
    (ho : o.op = .call { callee := .builtin .copy, args := #[d, s], argTypes := #[dT, sT] }) (elem : TypeId) (hu : P.underlying dT = some (.slice elem)) (hsz : (P.info? elem).map (·.size) = some 1)
    (dp sp : Option Addr) (dLen dCap sLen sCap : Nat) (hd : a.eval d = .slice dp dLen dCap) (hs : a.eval s = .slice sp sLen sCap)
    (g off : Nat) (cur : List Value) (t : TypeId) (w0 : World) (hT : Turn g (.cells cur.toArray t) w0 w) (cs : List Value) (hn : cs.length = Nat.min sLen dLen)
    (hpos : 0 < cs.length → dp = some ⟨g, off, none⟩ ∧ ∃ ad, sp = some ad ∧ ∀ j v, cs[j]? = some v → w.cell? (ad.add j) = some v)
    (hfit : off + cs.length ≤ cur.length) (h1 : ∀ v ∈ cs, v.oneCell' = true)
    (h : ∀ w', Hid (Turn g (.cells (splice cur off cs).toArray t) w0 w') → K (a.put o.dst (goInt cs.length)) w') :
    if Region.wanted o (yielded ops a.tmps) = true then Oper.wp P o a w K Q else E := by
  have hw : Region.wanted o (yielded ops a.tmps) = true := by simp [Region.wanted, hgd]
  rw [if_pos hw]
  by_cases h0 : cs.length = 0
  · obtain rfl : cs = [] := List.eq_nil_of_length_eq_zero h0
    have hrun := run_copy_none (P := P) w dT sT o.type elem dp sp dLen dCap sLen sCap hu hsz (by simpa using hn.symm)
    unfold Oper.wp
    simp [execOp, ho, resolve, invoke, builtin, hd, hs, hrun, Result.andThen]
    exact h w (show Turn _ _ _ _ by simpa [splice] using hT)
  · obtain ⟨rfl, ad, rfl, hsrc⟩ := hpos (by omega)
    have hrun := run_copy_row (P := P) w dT sT o.type elem g off dLen dCap ad sLen sCap cur.toArray t cs hu hsz hT.blk hn hsrc (by simpa using hfit) h1
    unfold Oper.wp
    simp [execOp, ho, resolve, invoke, builtin, hd, hs, hrun, Result.andThen]
    exact h _ (show Turn _ _ _ _ by simpa [splice] using hT.row _)
theorem kv_one (l : List Int) : ∀ v ∈ kv .u8 l, v.oneCell' = true := fun v hv => by
  obtain ⟨n, _, rfl⟩ := List.mem_map.1 hv
  rfl
theorem splice_kv (l z : List Int) (o : Nat) : splice (kv .u8 l) o (kv .u8 z) = kv .u8 (splice l o z) := by
  unfold splice
  simp [List.map_take, List.map_drop]
set_option maxRecDepth 100000 in
theorem run_slice35 (b off : Nat) (w : World) : (Instr.sliceAt 35 (.pointer (some ⟨b, off, none⟩)) none none none).run Try.prog w = .ok (.slice (some ⟨b, off, none⟩) 64 64) w := by
  have hl : Try.prog.arrayLen 35 = 64 := by kernel_rfl
  have he : Try.prog.elem 35 = 5 := by kernel_rfl
  rw [run_sliceAt_array_all (ht := Try.underlying35), hl, he]
  rfl
set_option maxRecDepth 100000 in
theorem run_slice35u (b off u : Nat) (hu : u ≤ 64) (w : World) : (Instr.sliceAt 35 (.pointer (some ⟨b, off, none⟩)) none (some (.int .i64 u)) none).run Try.prog w = .ok (.slice (some ⟨b, off, none⟩) u 64) w := by
  have hu' : (u : Int) ≤ 64 := by omega
  go_simp
theorem exec_slice35 {o : Oper} {a : Act} {w : World} {x : Operand} {b off : Nat} (ho : o.op = .slice 35 x none none none) (hx : a.eval x = .pointer (some ⟨b, off, none⟩)) : (execOp a.eval o).run Try.prog w = .ok (.value (.slice (some ⟨b, off, none⟩) 64 64)) w := by
  unfold execOp
  simp only [ho, hx, Option.map_none, Sem.run_bind, run_slice35 b off w, Result.andThen_ok, Sem.run_pure]
theorem exec_slice35u {o : Oper} {a : Act} {w : World} {x y : Operand} {b off u : Nat} (hu : u ≤ 64) (ho : o.op = .slice 35 x none (some y) none) (hx : a.eval x = .pointer (some ⟨b, off, none⟩)) (hy : a.eval y = .int .i64 u) : (execOp a.eval o).run Try.prog w = .ok (.value (.slice (some ⟨b, off, none⟩) u 64)) w := by
  unfold execOp
  simp only [ho, hx, hy, Option.map_none, Option.map_some, Sem.run_bind, run_slice35u b off u hu w, Result.andThen_ok, Sem.run_pure]
/-- A part of a sector as it lasts. -/
theorem SlStep.part {g k u : Nat} {v : Value} {s : SlS} {z : List Int} {w w' : World} (h : SlIs w g v s) (hk : k < s.n) (hz : z.length = 64) (hb : Bytes z) (hT : Turn g (.cells (kv .u8 (splice s.ls (k * 64) (z.take u))).toArray 35) w w') :
    SlStep g v v { s with ls := splice s.ls (k * 64) (z.take u) } w w' := by
  have hl := h.k.ll
  have hzu : (z.take u).length ≤ 64 := by rw [List.length_take]; omega
  have hfit : k * 64 + (z.take u).length ≤ s.ls.length := by rw [hl]; omega
  refine ⟨hT.os, hT.tape, hT.output, hT.size, ⟨hT.keep h.b (by omega), hT.blk, ?_, ⟨h.k.n1, ?_, splice_bytes h.k.lb (hb.take u), h.k.qq, h.k.sr, h.k.fr⟩⟩, fun j hj n1 _ _ => hT.other j hj n1, .inl rfl⟩
  · exact ownsRow_turn h.o hT (by omega)
  · show (splice s.ls (k * 64) (z.take u)).length = s.n * 64
    rw [length_splice _ _ _ hfit, hl]
theorem SlStep.ends {g : Nat} {v : Value} {s : SlS} {w : World} (h : SlIs w g v s) :
    SlStep g v (.slice none 0 0) { s with q := [], fu := -1, dn := false } w (((w.setCell ⟨g + 1, 1, none⟩ (.slice none 0 0)).setCell ⟨g + 1, 3, none⟩ (.int .i64 (-1))).setCell ⟨g + 1, 4, none⟩ (.bool false)) := by
  have hT : Turn (g + 1) (.cells #[.slice (some ⟨g, 0, none⟩) s.n s.n, .slice none 0 0, .int .i64 s.st, .int .i64 (-1), .bool false] 72) w (((w.setCell ⟨g + 1, 1, none⟩ (.slice none 0 0)).setCell ⟨g + 1, 3, none⟩ (.int .i64 (-1))).setCell ⟨g + 1, 4, none⟩ (.bool false)) := ((((Turn.same h.b).set 1 _).set 3 _).set 4 _).as rfl
  exact ⟨hT.os, hT.tape, hT.output, hT.size, ⟨hT.blk, hT.keep h.r (by omega), World.ownsRow_nil _ _ _ _, ⟨h.k.n1, h.k.ll, h.k.lb, (fun x hx => by cases hx), h.k.sr, (show (-9223372036854775808 : Int) ≤ -1 ∧ (-1 : Int) ≤ 9223372036854775807 by omega)⟩⟩, fun k hk _ h2 _ => hT.other k hk h2, .inr (fun k hk => by cases hk)⟩
def upN (n : Int) (m : Nat) : Nat := (min (max n 0) (m : Int)).toNat
theorem upN_le (n : Int) (m : Nat) : upN n m ≤ m := by unfold upN; omega
theorem upN_eq (n : Int) (m : Nat) : min (max n 0) (m : Int) = (upN n m : Nat) := by unfold upN; omega
/-- What a crash makes of the sectors: k writes last, and u bytes of the next one. -/
def crashL (ls : List Int) (q : List (Nat × List Int)) (k u : Nat) : List Int := match q[k]? with
  | some x => splice (settleL ls (q.take k)) (x.1 * 64) (x.2.take u)
  | none => settleL ls (q.take k)
def CrashPost (g : Nat) (v : Value) (s' : SlS) (w : World) (r : Ending) (w' : World) : Prop := ∃ v', r = .returned (.int .i64 0) ∧ SlStep g v v' s' w w'
def crashS (s : SlS) (n b : Int) : SlS := { s with ls := crashL s.ls s.q (upN n s.q.length) (upN b 64), q := [], fu := -1, dn := false }
set_option maxRecDepth 100000 in
set_option maxHeartbeats 2000000 in
theorem crash_any (g : Nat) (v : Value) (s : SlS) (n b : Int) (w : World) (h : SlIs w g v s) (hq : s.q.length ≤ 1000000) :
    Calls Try.prog 19 #[slP g, .int .i64 n, .int .i64 b] w (CrashPost g v (crashS s n b) w) := by
  have H := Kp.mk h
  have HQ := Kp.mk hq
  obtain ⟨⟨c0, c1, c2, c3, c4⟩, -⟩ := h.cells
  obtain ⟨a, c, hve⟩ := h.slice
  have hcap : s.q.length ≤ c := by
    rcases h.o.2 with ⟨e, hn⟩ | ⟨qb, cap, cur, e, h1, h2, h3, h4⟩
    · omega
    · rw [hve] at e; simp only [Value.slice.injEq] at e; omega
  rw [hve] at c1
  have HVE := Kp.mk hve
  obtain ⟨m, hm⟩ : ∃ m, m = upN n s.q.length := ⟨_, rfl⟩
  have HMe := Kp.mk hm
  have HMl : Kp (m ≤ s.q.length) := ⟨by rw [hm]; exact upN_le _ _⟩
  have HN : Kp (min (max n 0) (s.q.length : Int) = (m : Nat)) := ⟨by rw [hm]; exact upN_eq _ _⟩
  obtain ⟨u, hu⟩ : ∃ u, u = upN b 64 := ⟨_, rfl⟩
  have HUl : Kp (u ≤ 64) := ⟨by rw [hu]; exact upN_le _ _⟩
  have HB : Kp (min (max b 0) 64 = (u : Int)) := ⟨by rw [hu]; exact upN_eq b 64⟩
  have HCR0 : Kp (crashS s n b = { s with ls := crashL s.ls s.q m u, q := [], fu := -1, dn := false }) := ⟨by unfold crashS; rw [← hm, ← hu]⟩
  clear h hq hve hm hu
  obtain ⟨l, hl⟩ : ∃ l, l = s.q.length := ⟨_, rfl⟩
  have HLe := Kp.mk hl
  rw [← hl] at hcap c1
  clear hl
  go_enter Try.func19, Try.ntmps19
  go_wp2_with fail
  refine (upTo_any n l _).mono ?_
  rintro r w1 ⟨rfl, rfl⟩
  rw [show min (max n 0) (l : Int) = (m : Nat) by rw [HLe.out]; exact HN.out]
  have hml : m ≤ l := by rw [HLe.out]; exact HMl.out
  have hmc : (m : Int) ≤ (c : Int) := by omega
  go_wp2_with fail
  refine (settle_any g m c a v s _ H.out HMl.out HQ.out (fun _ => ⟨_, _, HVE.out⟩)).mono ?_
  rintro r w3 ⟨rfl, h3⟩
  have HS3 := Kp.mk h3
  obtain ⟨⟨d0, d1, d2, d3, d4⟩, -⟩ := h3.is.cells
  rw [HVE.out, ← HLe.out] at d1
  clear h3 c0 c1 c2 c3 c4
  by_cases hlt : m < l
  · have hlt' : (m : Int) < (l : Int) := by omega
    have hiq : m < s.q.length := by rw [← HLe.out]; exact hlt
    obtain ⟨k, z, hx⟩ : ∃ k z, s.q[m] = (k, z) := ⟨_, _, rfl⟩
    obtain ⟨hkn, hzl, hzb⟩ := H.out.k.qq _ (List.getElem_mem hiq)
    rw [hx] at hkn hzl hzb
    have HZl : Kp (z.length = 64) := ⟨hzl⟩
    have HZb : Kp (Bytes z) := ⟨hzb⟩
    obtain ⟨s1, hs1⟩ : ∃ s1 : SlS, s1 = { s with ls := settleL s.ls (s.q.take m) } := ⟨_, rfl⟩
    have HKn : Kp (k < s1.n) := ⟨by rw [hs1]; exact hkn⟩
    have HCR : Kp (crashS s n b = { s1 with ls := splice s1.ls (k * 64) (z.take u), q := [], fu := -1, dn := false }) := ⟨by rw [HCR0.out, hs1]; unfold crashL; rw [List.getElem?_eq_getElem hiq, hx]⟩
    obtain ⟨qb, cap, hve, hcap2, hqb1, hqb2, hrng⟩ := HS3.out.is.at (i := m) hiq
    have hva := HVE.out
    rw [hve] at hva
    simp only [Value.slice.injEq] at hva
    obtain ⟨hae, -, -⟩ := hva
    subst hae
    have HRG : Kp (w3.rangeAt qb (m * 65) (wcells (k, z))) := ⟨by rw [← hx]; exact hrng⟩
    have HF : Kp (SlStep g v v s1 w w3) := ⟨by rw [hs1]; exact HS3.out⟩
    obtain ⟨C, hC⟩ : ∃ C, C = w3.heap.size := ⟨_, rfl⟩
    have HCe := Kp.mk hC
    have HGC : Kp (g + 1 < C) := ⟨by rw [hC]; exact HF.out.is.lt⟩
    have HW65 : Kp ((wcells (k, z)).length = 65) := ⟨by rw [wcells_len HZl.out]⟩
    obtain ⟨V, hV⟩ : ∃ V, V = (w3.alloc (.cells z82.toArray 82)).setRow C (wcells (k, z)).toArray := ⟨_, rfl⟩
    have E2 : Kp (Blk V C (.cells (wcells (k, z)).toArray 82)) := ⟨by rw [hV]; exact Blk.setRow (Blk.newAt _ hC) _⟩
    have E3 : Kp (SlStep g v v s1 w V) := ⟨by rw [hV]; exact SlStep.trans HF.out (SlStep.same HF.out.is (Below.row (more (Below.refl _ _) _) (by omega) _))⟩
    have E1 : Kp (SlIs V g v s1) := ⟨E3.out.is⟩
    have HV := Kp.mk hV.symm
    have HI65 : Kp ((Try.prog.info? 82).map (·.size) = some (wcells (k, z)).toArray.size) := ⟨by rw [List.size_toArray, HW65.out]; exact info82s⟩
    have HZ65 : Kp (z82.toArray.size = (wcells (k, z)).toArray.size) := ⟨by rw [List.size_toArray, List.size_toArray, HW65.out, z82_len]⟩
    have HA65 : Kp ((wcells (k, z)).toArray.all (·.oneCell') = true) := ⟨all_oneCell_toArray (wcells_one (k, z))⟩
    clear hx hkn hzl hzb hs1 hve hcap2 hrng hC hV HS3 HCR0
    go_wp2_with (first
      | (refine wpList_load_mid rfl 82 (.tmp 38) rfl qb (m * 65) rfl (wcells (k, z)) _ HRG.out Try.underlying82 rfl (by rw [HW65.out]; exact info82s) ?_)
      | (refine wpList_alloc_row rfl 82 rfl _ _ infoz82 ?_)
      | (rw [← HCe.out]; refine wpList_store_row rfl 82 (.tmp 8) (.tmp 39) rfl C (wcells (k, z)).toArray rfl rfl 82 _ (Blk.newAt _ HCe.out) HI65.out HZ65.out HA65.out ?_; refine wpl_world (· = V) HV.out ?_; clear HV; intro W0 e0; rw [e0]; clear e0))
    clear d0 d1 d2 d3 d4
    refine wp_region_held_drew (S := fun w' => w'.cell? ⟨g + 1, 0, none⟩ = some (.slice (some ⟨g, 0, none⟩) s1.n s1.n) ∧ w'.cell? ⟨C, 0, none⟩ = some (.int .i64 (k : Nat))) (by kernel_rfl) (⟨E1.out.cells.1.1, by have h := E2.out.cell 0; rw [wcells_0] at h; exact h⟩) (fun hH => ?_)
    refine wpAnyH_take (i := 0) (oi := { dst := some 40, op := Go.Op.move (Go.Operand.tmp 0), type := 23, pos := "slate.go:123", after := #[], guard := none }) (v := slP g) rfl (by kernel_rfl) (by kernel_rfl) (by kernel_rfl) (fun _ _ _ h => h) (Or.inl ⟨by rfl, fun w hS => by first | rfl | go_simp⟩) hH ?_
    simp only [Act.put, List.setIfInBounds_toArray, List.set_cons_zero, List.set_cons_succ]
    refine wpAnyH_take (i := 1) (oi := { dst := some 41, op := Go.Op.nilCheck (Go.Operand.tmp 40), type := 0, pos := "slate.go:123", after := #[{ on := 0, ground := Go.Ground.data }], guard := none }) (v := slP g) rfl (by kernel_rfl) (by kernel_rfl) (by kernel_rfl) (fun _ _ _ h => h) (Or.inl ⟨by rfl, fun w hS => by first | rfl | go_simp⟩) hH ?_
    simp only [Act.put, List.setIfInBounds_toArray, List.set_cons_zero, List.set_cons_succ]
    refine wpAnyH_take (i := 2) (oi := { dst := some 42, op := Go.Op.fieldAddr 72 (Go.Operand.tmp 41) 0, type := 0, pos := "slate.go:123", after := #[{ on := 1, ground := Go.Ground.data }], guard := none }) (v := .pointer (some ⟨g + 1, 0, none⟩)) rfl (by kernel_rfl) (by kernel_rfl) (by kernel_rfl) (fun _ _ _ h => h) (Or.inl ⟨by rfl, fun w hS => by first | rfl | go_simp⟩) hH ?_
    simp only [Act.put, List.setIfInBounds_toArray, List.set_cons_zero, List.set_cons_succ]
    refine wpAnyH_take (i := 3) (oi := { dst := some 43, op := Go.Op.load 69 (Go.Operand.tmp 42), type := 69, pos := "slate.go:123", after := #[{ on := 2, ground := Go.Ground.data }], guard := none }) (v := .slice (some ⟨g, 0, none⟩) s1.n s1.n) rfl (by kernel_rfl) (by kernel_rfl) (by kernel_rfl) (fun _ _ _ h => h) (Or.inl ⟨by rfl, fun w hS => by have h1 := hS.1; go_simp⟩) hH ?_
    simp only [Act.put, List.setIfInBounds_toArray, List.set_cons_zero, List.set_cons_succ]
    refine wpAnyH_take (i := 4) (oi := { dst := some 44, op := Go.Op.fieldAddr 82 (Go.Operand.tmp 8) 0, type := 0, pos := "slate.go:123", after := #[], guard := none }) (v := .pointer (some ⟨C, 0, none⟩)) rfl (by kernel_rfl) (by kernel_rfl) (by kernel_rfl) (fun _ _ _ h => h) (Or.inl ⟨by rfl, fun w hS => by first | rfl | go_simp⟩) hH ?_
    simp only [Act.put, List.setIfInBounds_toArray, List.set_cons_zero, List.set_cons_succ]
    refine wpAnyH_take (i := 5) (oi := { dst := some 45, op := Go.Op.load 3 (Go.Operand.tmp 44), type := 3, pos := "slate.go:123", after := #[{ on := 4, ground := Go.Ground.data }], guard := none }) (v := .int .i64 (k : Nat)) rfl (by kernel_rfl) (by kernel_rfl) (by kernel_rfl) (fun _ _ _ h => h) (Or.inl ⟨by rfl, fun w hS => by have h1 := hS.2; go_simp⟩) hH ?_
    simp only [Act.put, List.setIfInBounds_toArray, List.set_cons_zero, List.set_cons_succ]
    refine wpAnyH_take (i := 6) (oi := { dst := some 46, op := Go.Op.indexAddr 69 (Go.Operand.tmp 43) (Go.Operand.tmp 45), type := 0, pos := "slate.go:123", after := #[{ on := 3, ground := Go.Ground.data }, { on := 5, ground := Go.Ground.data }], guard := none }) (v := .pointer (some ⟨g, k * 64, none⟩)) rfl (by kernel_rfl) (by kernel_rfl) (by kernel_rfl) (fun _ _ _ h => h) (Or.inl ⟨by rfl, fun w hS => by have h1 := HKn.out; have h2 : (k : Int) < (s1.n : Int) := (by omega); go_simp⟩) hH ?_
    simp only [Act.put, List.setIfInBounds_toArray, List.set_cons_zero, List.set_cons_succ]
    refine wpAnyH_take (i := 7) (oi := { dst := some 47, op := Go.Op.slice 35 (Go.Operand.tmp 46) none none none, type := 47, pos := "slate.go:123", after := #[{ on := 6, ground := Go.Ground.data }], guard := none }) (v := .slice (some ⟨g, k * 64, none⟩) 64 64) rfl (by kernel_rfl) (by kernel_rfl) (by kernel_rfl) (fun _ _ _ h => h) (Or.inl ⟨by rfl, fun w hS => exec_slice35 rfl rfl⟩) hH ?_
    simp only [Act.put, List.setIfInBounds_toArray, List.set_cons_zero, List.set_cons_succ]
    refine wpAnyH_take (i := 8) (oi := { dst := some 48, op := Go.Op.fieldAddr 82 (Go.Operand.tmp 8) 1, type := 0, pos := "slate.go:123", after := #[], guard := none }) (v := .pointer (some ⟨C, 1, none⟩)) rfl (by kernel_rfl) (by kernel_rfl) (by kernel_rfl) (fun _ _ _ h => h) (Or.inl ⟨by rfl, fun w hS => by first | rfl | go_simp⟩) hH ?_
    simp only [Act.put, List.setIfInBounds_toArray, List.set_cons_zero, List.set_cons_succ]
    refine wpAnyH_take (i := 9) (oi := { dst := some 49, op := Go.Op.move (Go.Operand.tmp 2), type := 3, pos := "slate.go:123", after := #[], guard := none }) (v := .int .i64 b) rfl (by kernel_rfl) (by kernel_rfl) (by kernel_rfl) (fun _ _ _ h => h) (Or.inl ⟨by rfl, fun w hS => by first | rfl | go_simp⟩) hH ?_
    simp only [Act.put, List.setIfInBounds_toArray, List.set_cons_zero, List.set_cons_succ]
    refine wpAnyH_ready (rs := [10]) (by kernel_rfl) (by simp) ?_
    refine AllReadyH.cons (o := { dst := some 50, op := Go.Op.call { callee := Go.Callee.value (Go.Operand.func 46), args := #[Go.Operand.tmp 49, Go.Operand.const (Go.Value.int Go.IntKind.i64 64)], argTypes := #[3, 3] }, type := 3, pos := "slate.go:123", after := #[{ on := 9, ground := Go.Ground.data }], guard := none }) rfl (fun K hK => ?_) AllReadyH.nil
    go_simp
    refine (upTo_any b 64 _).mono ?_
    rintro r w2 ⟨rfl, rfl⟩
    rw [HB.out]
    refine hK.out _ _ (hH) (fun hHn => ?_)
    clear hK K hH
    have hH := hHn
    clear hHn
    try simp only [Act.put, List.setIfInBounds_toArray, List.set_cons_zero, List.set_cons_succ]
    refine wpAnyH_take (i := 11) (oi := { dst := some 51, op := Go.Op.slice 35 (Go.Operand.tmp 48) none (some (Go.Operand.tmp 50)) none, type := 47, pos := "slate.go:123", after := #[{ on := 8, ground := Go.Ground.data }, { on := 10, ground := Go.Ground.data }], guard := none }) (v := .slice (some ⟨C, 1, none⟩) u 64) rfl (by kernel_rfl) (by kernel_rfl) (by kernel_rfl) (fun _ _ _ h => h) (Or.inl ⟨by rfl, fun w hS => exec_slice35u HUl.out rfl rfl rfl⟩) hH ?_
    simp only [Act.put, List.setIfInBounds_toArray, List.set_cons_zero, List.set_cons_succ]
    refine wpAnyH_ready (rs := [12]) (by kernel_rfl) (by simp) ?_
    refine AllReadyH.cons (o := { dst := some 52, op := Go.Op.call { callee := Go.Callee.builtin Go.Builtin.copy, args := #[Go.Operand.tmp 47, Go.Operand.tmp 51], argTypes := #[47, 47] }, type := 3, pos := "slate.go:123", after := #[{ on := 7, ground := Go.Ground.data }, { on := 11, ground := Go.Ground.data }, { on := 10, ground := Go.Ground.chain }], guard := none }) rfl (fun K hK => ?_) AllReadyH.nil
    refine step_copy_turn rfl (.tmp 47) (.tmp 51) 47 47 rfl 5 Try.underlying47 (by kernel_rfl) (some ⟨g, k * 64, none⟩) (some ⟨C, 1, none⟩) 64 64 u 64 rfl rfl g (k * 64) (kv .u8 s1.ls) 35 V (Turn.same E1.out.r).drew (kv .u8 (z.take u)) ?c1 ?c2 ?c3 (kv_one _) ?_
    case c1 => rw [List.length_map, List.length_take, HZl.out]
    case c2 => exact fun _ => ⟨rfl, _, rfl, fun j v hv => by
      have hj : j < u := by have := (List.getElem?_eq_some_iff.1 hv).1; rw [List.length_map, List.length_take] at this; omega
      have h9 := wcells_mid E2.out.draw j v (by rw [← hv, List.getElem?_map, List.getElem?_map, List.getElem?_take, if_pos hj])
      rw [show (⟨C, 1, none⟩ : Addr).add j = ⟨C, 1 + j, none⟩ by unfold Addr.add; split <;> simp_all]
      exact h9⟩
    case c3 => rw [List.length_map, List.length_map, List.length_take, HZl.out, E1.out.k.ll]; have := HKn.out; have := HUl.out; omega
    intro w4 hT4
    have HT4 : Kp (Turn g (.cells (kv .u8 (splice s1.ls (k * 64) (z.take u))).toArray 35) V w4) := ⟨by have h := hT4; rw [splice_kv] at h; exact h⟩
    clear hT4
    refine hK.out _ _ (⟨(HT4.out.other (g + 1) E1.out.lt (by omega) |> fun e => (World.cell?_of_block (w := V) (a := ⟨g + 1, 0, none⟩) e).trans E1.out.cells.1.1), (HT4.out.other C E2.out.lt (by have := HGC.out; omega) |> fun e => (World.cell?_of_block (w := V) (a := ⟨C, 0, none⟩) e).trans (by have h := E2.out.cell 0; rw [wcells_0] at h; exact h))⟩) (fun hHn => ?_)
    clear hK K hH
    have hH := hHn
    clear hHn
    try simp only [Act.put, List.setIfInBounds_toArray, List.set_cons_zero, List.set_cons_succ]
    clear hH
    refine wpAnyH_done (by kernel_rfl) ?_ _
    have HSL := Kp.mk (SlStep.trans E3.out (SlStep.part E1.out HKn.out HZl.out HZb.out HT4.out))
    clear E1 E2 E3 HT4
    have HS9 := Kp.mk (SlStep.trans HSL.out (SlStep.ends (HSL.out).is))
    have HI := Kp.mk ((HSL.out).is)
    have hl9 := HI.out.lt
    obtain ⟨⟨d0, d1, d2, d3, d4⟩, hf⟩ := HI.out.cells
    have hf1 := hf 1
    have hf3 := hf 3
    have hf4 := hf 4
    clear hf
    go_wp2_with fail
    go_ret
    exact ⟨_, rfl, by rw [HCR.out]; exact HS9.out⟩
  · obtain rfl : m = l := by omega
    have hge : ¬ (m : Int) < (m : Int) := by omega
    have HCR : Kp (crashS s n b = { { s with ls := settleL s.ls (s.q.take m) } with q := [], fu := -1, dn := false }) := ⟨by rw [HCR0.out]; unfold crashL; rw [List.getElem?_eq_none (by rw [← HLe.out]; exact Nat.le_refl _)]⟩
    clear d0 d1 d2 d3 d4
    have HS9 := Kp.mk (SlStep.trans HS3.out (SlStep.ends (HS3.out).is))
    have HI := Kp.mk ((HS3.out).is)
    have hl9 := HI.out.lt
    obtain ⟨⟨d0, d1, d2, d3, d4⟩, hf⟩ := HI.out.cells
    rw [HVE.out, ← HLe.out] at d1
    have hf1 := hf 1
    have hf3 := hf 3
    have hf4 := hf 4
    clear hf
    go_wp2_with fail
    go_ret
    exact ⟨_, rfl, by rw [HCR.out]; exact HS9.out⟩
end Go.Proofs.Ytgikedbnnlckjaa
