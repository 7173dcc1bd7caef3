/-
  Parse.
-/
import Derived.Test.YtcppmkblllappaaDoorCfE
import Derived.WalkMore
import Derived.Deep.RegionHeld
namespace Go.Proofs.YtcppmkblllappaaDoor
open Go.RowKit Go.Maps

theorem runP_skip {l : ByteArray} {r : List ByteArray} {t : Nat} {p : PS} (h : skipB l = true) : runP (l :: r) t p = runP r (t + 1) p := by
  show (match stepP t l p with | (some (x, e), q) => ((some (((t + 1 : Nat) : Int), x, e), q) : Option (Int × ByteArray × Int) × PS) | (none, q) => runP r (t + 1) q) = _
  unfold stepP
  rw [if_pos h]
theorem runP_form {l : ByteArray} {r : List ByteArray} {t : Nat} {p : PS} (h : skipB l = false) (hv : numV (cutV l) = none) : runP (l :: r) t p = (some (((t + 1 : Nat) : Int), cutN l, 10), p) := by
  show (match stepP t l p with | (some (x, e), q) => ((some (((t + 1 : Nat) : Int), x, e), q) : Option (Int × ByteArray × Int) × PS) | (none, q) => runP r (t + 1) q) = _
  unfold stepP
  rw [if_neg (by rw [h]; simp), hv]
theorem runP_twice {l : ByteArray} {r : List ByteArray} {t : Nat} {p : PS} {v : Int} (h : skipB l = false) (hv : numV (cutV l) = some v) (h0 : 0 < stN p.st (cutN l)) : runP (l :: r) t p = (some (((t + 1 : Nat) : Int), cutN l, 7), p) := by
  show (match stepP t l p with | (some (x, e), q) => ((some (((t + 1 : Nat) : Int), x, e), q) : Option (Int × ByteArray × Int) × PS) | (none, q) => runP r (t + 1) q) = _
  unfold stepP
  rw [if_neg (by rw [h]; simp), hv]
  simp only
  rw [if_pos h0]
theorem runP_set {l : ByteArray} {r : List ByteArray} {t : Nat} {p : PS} {v : Int} (h : skipB l = false) (hv : numV (cutV l) = some v) (h0 : ¬ 0 < stN p.st (cutN l)) (h1 : ixN (cutN l) < 15) : runP (l :: r) t p = runP r (t + 1) ⟨upd p.f (ixN (cutN l)) v, upd p.st (ixN (cutN l)) (t + 1 : Nat)⟩ := by
  show (match stepP t l p with | (some (x, e), q) => ((some (((t + 1 : Nat) : Int), x, e), q) : Option (Int × ByteArray × Int) × PS) | (none, q) => runP r (t + 1) q) = _
  unfold stepP
  rw [if_neg (by rw [h]; simp), hv]
  simp only
  rw [if_neg h0, if_pos h1]
theorem runP_none {l : ByteArray} {r : List ByteArray} {t : Nat} {p : PS} {v : Int} (h : skipB l = false) (hv : numV (cutV l) = some v) (h0 : ¬ 0 < stN p.st (cutN l)) (h1 : ¬ ixN (cutN l) < 15) : runP (l :: r) t p = (some (((t + 1 : Nat) : Int), cutN l, 6), p) := by
  show (match stepP t l p with | (some (x, e), q) => ((some (((t + 1 : Nat) : Int), x, e), q) : Option (Int × ByteArray × Int) × PS) | (none, q) => runP r (t + 1) q) = _
  unfold stepP
  rw [if_neg (by rw [h]; simp), hv]
  simp only
  rw [if_neg h0, if_neg h1]
theorem outP_none (p : PS) : outP (none, p) = if ck p.f = 15 then (p.f, 0, ⟨#[]⟩, 0) else (r0, stN p.st (nmA (ck p.f)), nmA (ck p.f), 30) := rfl
theorem nmA_size (i : Nat) : (nmA i).size ≤ maxLen := by
  by_cases h : i < 15
  · have : ∀ i : Fin 15, (nmA i).size ≤ maxLen := by decide
    exact this ⟨i, h⟩
  · have e : nmA i = ⟨#[]⟩ := by
      unfold nmA
      rw [List.getD_eq_getElem?_getD, List.getElem?_eq_none (by have : nmB.length = 15 := rfl; omega)]
      rfl
    rw [e]
    decide
theorem wp_store_rowD {P : Program} {o : Oper} {a : Act} {w : World} {K : Act → World → Prop} {Q : Exit → Act → World → Prop} (hd : o.dst = none) (ty : TypeId) (x y : Operand) (ho : o.op = .store ty x y)
    (g : Nat) (cells : Array Value) (hx : a.eval x = .pointer (some ⟨g, 0, none⟩)) (hy : a.eval y = .agg cells)
    (t : TypeId) (cs : Array Value) (hg : w.heap[g]? = some (.cells cs t (0, 0))) (hi : (P.info? ty).map (·.size) = some cells.size)
    (hs : cs.size = cells.size) (h1 : cells.all (·.oneCell') = true) (h : K a (w.setRow g cells)) : o.wp P a w K Q := by
  refine wp_store_row ty x y ho g cells hx hy t cs hg hi hs h1 ?_
  rw [hd]
  exact h
/-- What holds at every step of the last mistake's statement. -/
structure SQ (w0 : World) (A Mp n : Nat) (st : Nat → Int) (w : World) : Prop where
  a : Blk w A (.cells (rc r0).toArray 33)
  m : ∃ x y z, Blk w (A + 1) (.cells #[.int .i64 x, .string y, .int .i64 z] 36)
  mp : MapS w Mp n st
  hb : Below w0.heap.size w0 w
theorem SQ.of {w0 w : World} {A G L Mp S n : Nat} {lns : List ByteArray} {f st : Nat → Int} (h : PM w0 A G L Mp S n lns f st w) : SQ w0 A Mp n st w := ⟨h.a, ⟨_, _, _, h.m⟩, h.mp, h.hb⟩
theorem SQ.one {w0 w : World} {A G L Mp S n : Nat} {st : Nat → Int} (h : SQ w0 A Mp n st w) (hn : PN w0 A G L Mp S) : SQ w0 A Mp n st (w.setRow A (rc r0).toArray) := by
  have hh : ∀ b, b ≠ A → (w.setRow A (rc r0).toArray).heap[b]? = w.heap[b]? := fun b hb => setRow_other w A b _ hb
  have := hn.A0; have := hn.AG; have := hn.GL; have := hn.LM; have := hn.MS
  obtain ⟨x, y, z, hm⟩ := h.m
  exact ⟨Blk.setRow h.a _, ⟨x, y, z, (hh (A + 1) (by omega)).trans hm⟩, h.mp.block (hh Mp (by omega)), below_setRow h.hb (by omega) _⟩
theorem SQ.two {w0 w : World} {A G L Mp S n : Nat} {st : Nat → Int} (h : SQ w0 A Mp n st w) (hn : PN w0 A G L Mp S) {x : Int} {y : ByteArray} {z : Int} :
    SQ w0 A Mp n st (w.setRow (A + 1) #[.int .i64 x, .string y, .int .i64 z]) ∧ Blk (w.setRow (A + 1) #[.int .i64 x, .string y, .int .i64 z]) (A + 1) (.cells #[.int .i64 x, .string y, .int .i64 z] 36) := by
  have hh : ∀ b, b ≠ A + 1 → (w.setRow (A + 1) #[.int .i64 x, .string y, .int .i64 z]).heap[b]? = w.heap[b]? := fun b hb => setRow_other w (A + 1) b _ hb
  have := hn.A0; have := hn.AG; have := hn.GL; have := hn.LM; have := hn.MS
  obtain ⟨x', y', z', hm⟩ := h.m
  have h2 : Blk (w.setRow (A + 1) #[.int .i64 x, .string y, .int .i64 z]) (A + 1) (.cells #[.int .i64 x, .string y, .int .i64 z] 36) := Blk.setRow hm _
  exact ⟨⟨(hh A (by omega)).trans h.a, ⟨x, y, z, h2⟩, h.mp.block (hh Mp (by omega)), below_setRow h.hb (by omega) _⟩, h2⟩
theorem wpAnyH_store {P : Program} {md : Region.Mode} {ops : Array Oper} {Q : Exit → Act → World → Prop} {S : World → Prop} {i : Nat} {o : Oper} {fuel : Nat} {listed : Array Bool} {a : Act} {w : World}
    (hr : Region.ready md ops listed = [i]) (ho : ops[i]? = some o) (hg : o.guard = none) (hd : o.dst = none) (ty : TypeId) (x y : Operand) (hop : o.op = .store ty x y)
    (g : Nat) (cells : Array Value) (hx : a.eval x = .pointer (some ⟨g, 0, none⟩)) (hy : a.eval y = .agg cells) (t : TypeId) (cs : Array Value) (hgb : w.heap[g]? = some (.cells cs t (0, 0))) (hi : (P.info? ty).map (·.size) = some cells.size)
    (hs : cs.size = cells.size) (h1 : cells.all (·.oneCell') = true) (hS : S (w.setRow g cells)) (h : wpAnyH P md ops Q S fuel (listed.setIfInBounds i true) a (w.setRow g cells)) : wpAnyH P md ops Q S (fuel + 1) listed a w :=
  wpAnyH_all hr (by simp) fun j hj => by
    obtain rfl : j = i := by simpa using hj
    refine wpOp_step ho (fun K hK => ?_)
    rw [if_pos (by simp [Region.wanted, hg])]
    exact wp_store_rowD hd ty x y hop g cells hx hy t cs hgb hi hs h1 (hK _ _ ⟨hS, h⟩)
theorem MapS.run {w : World} {M n : Nat} {st : Nat → Int} (h : MapS w M n st) {x : ByteArray} (hx : x.size ≤ maxLen) : (Instr.lookup 67 (.map (some M)) (.string x) false).run Tryd.prog w = .ok (.int .i64 (stN st x)) w := by
  obtain ⟨D, ho, hD, hF⟩ := h
  obtain ⟨c, hrun, hat, _⟩ := ho.lookup_int law9 Tryd.underlying67 Tryd.underlying3 (zero3 w) (key9 hx)
  have := (hF x hx).symm.trans hat
  simp at this
  rw [hrun, this]
theorem info36 {a : Int} {s : ByteArray} {b : Int} : (Tryd.prog.info? 36).map (·.size) = some (#[Value.int .i64 a, .string s, .int .i64 b] : Array Value).size := by kernel_rfl
theorem three_one (a : Int) (s : ByteArray) (b : Int) : (#[Value.int .i64 a, .string s, .int .i64 b] : Array Value).all (·.oneCell') = true := by simp [Value.oneCell']
theorem ret7 {tmps : Array Value} {w : World} {f : Nat → Int} {A : Nat} {a : Int} {s : ByteArray} {b : Int} (h2 : tmps.getD 2 undef = .pointer (some ⟨A, 0, none⟩)) (h3 : tmps.getD 3 undef = .pointer (some ⟨A + 1, 0, none⟩)) (hA : Blk w A (rObj f)) (hm : Blk w (A + 1) (.cells #[.int .i64 a, .string s, .int .i64 b] 36)) :
    (results Tryd.f7 tmps).run Tryd.prog w = .ok (.tuple #[.agg (rc f).toArray, .agg #[.int .i64 a, .string s, .int .i64 b]]) w := by
  have h2' : tmps[2]?.getD undef = .pointer (some ⟨A, 0, none⟩) := by simpa using h2
  have h3' : tmps[3]?.getD undef = .pointer (some ⟨A + 1, 0, none⟩) := by simpa using h3
  have hl2 := run_loadVar_row (P := Tryd.prog) w A 33 33 (rc f).toArray (0, 0) _ hA Tryd.underlying33 rfl (info33s f)
  have hl3 := run_loadVar_row (P := Tryd.prog) w (A + 1) 36 36 #[.int .i64 a, .string s, .int .i64 b] (0, 0) _ hm Tryd.underlying36 rfl info36
  simp [results, Tryd.results7, h2', h3', asAddr, hl2, hl3]
def PPost (s : ByteArray) (w : World) (r : Ending) (w' : World) : Prop := r = .returned (.tuple #[.agg (rc (parseV s).1).toArray, .agg #[.int .i64 (parseV s).2.1, .string (parseV s).2.2.1, .int .i64 (parseV s).2.2.2]]) ∧ Below w.heap.size w w'
theorem built33z : Tryd.prog.built 33 [] = some (rc r0).toArray := by kernel_rfl
theorem wZ : Kp (Tryd.prog.built 33 (#[] : Array (Nat × Value)).toList = some (rc r0).toArray ∧ (Tryd.prog.info? 33).map (·.size) = some (rc r0).toArray.size ∧ (Tryd.prog.info? 33).map (fun i => (i.zero, i.size)) = some (some (.agg (rc r0).toArray), 15)) := ⟨built33z, info33s r0, info33z⟩
def HB0 (w : World) : World := (w.alloc (rObj r0)).alloc (.cells #[.int .i64 0, .string ⟨#[]⟩, .int .i64 0] 36)
theorem hb0_is (w : World) : Blk (HB0 w) w.heap.size (rObj r0) ∧ Blk (HB0 w) (w.heap.size + 1) (.cells #[.int .i64 0, .string ⟨#[]⟩, .int .i64 0] 36) ∧ Below w.heap.size w (HB0 w) ∧ (HB0 w).heap.size = w.heap.size + 2 :=
  ⟨(Blk.new _ _).old _, Blk.newAt _ (by simp), more (more (Below.refl _ _) _) _, by simp [HB0]⟩
/-- What the first calls of a line see. -/
structure L0 (w : World) (A : Nat) (W : World) : Prop where
  a : Blk W A (.cells (rc r0).toArray 33)
  m : Blk W (A + 1) (.cells #[.int .i64 0, .string ⟨#[]⟩, .int .i64 0] 36)
  hb : Below w.heap.size w W
structure A0P (w : World) (A : Nat) : Prop where
  A0 : A = w.heap.size
set_option maxRecDepth 100000 in
set_option maxHeartbeats 6400000 in
theorem parse_long (s : ByteArray) (w : World) (hs : 4096 < s.size) (hm : s.size ≤ maxLen) : Calls Tryd.prog 7 #[.string s] w (PPost s w) := by
  have hs' : (4096 : Int) < (s.size : Int) := by omega
  have HP : Kp (∀ w', Below w.heap.size w w' → PPost s w (.returned (.tuple #[.agg (rc r0).toArray, .agg #[.int .i64 0, .string ⟨#[]⟩, .int .i64 8]])) w') := ⟨fun w' hb => ⟨by unfold parseV; rw [if_pos hs], hb⟩⟩
  obtain ⟨A, hA⟩ : ∃ A, A = w.heap.size := ⟨_, rfl⟩
  have HPN : Kp (A0P w A) := ⟨⟨hA⟩⟩
  have HZ := wZ
  have K1 : Kp (L0 w A (HB0 w)) := ⟨by have := hb0_is w; rw [← hA] at this; exact ⟨this.1, this.2.1, by rw [hA] at this; exact this.2.2.1⟩⟩
  have HS : Kp (HB0 w = (w.alloc (rObj r0)).alloc (.cells #[.int .i64 0, .string ⟨#[]⟩, .int .i64 0] 36)) := ⟨rfl⟩
  clear hs hA
  go_enter Tryd.func7, Tryd.ntmps7
  go_upto_region 1 with (refine wpList_alloc_row rfl 33 rfl (rc r0).toArray 15 HZ.out.2.2 ?_)
  rw [← HS.out, ← HPN.out.A0]
  revert K1
  generalize HB0 w = w1 at *
  intro K1
  clear HS
  go_step3
  go_wp2_with (first
    | (refine wpList_build_eq rfl 33 #[] rfl #[] (by simp) (rc r0).toArray HZ.out.1 ?_)
    | (refine wpList_store_row rfl 33 (.tmp 2) (.tmp 21) rfl A (rc r0).toArray rfl rfl 33 _ K1.out.a HZ.out.2.1 rfl (all_oneCell_toArray (rc_one r0)) ?_
       have KE : Kp (Blk (w1.setRow A (rc r0).toArray) A (rObj r0) ∧ Blk (w1.setRow A (rc r0).toArray) (A + 1) (.cells #[.int .i64 0, .string ⟨#[]⟩, .int .i64 0] 36) ∧ Below w.heap.size w (w1.setRow A (rc r0).toArray)) := ⟨Blk.setRow K1.out.a _, (setRow_other w1 A (A + 1) _ (Nat.succ_ne_self A)).trans K1.out.m, below_setRow K1.out.hb (by rw [HPN.out.A0]; exact Nat.le_refl _) _⟩
       revert KE
       generalize w1.setRow A (rc r0).toArray = w8
       intro KE)
    | (refine wpList_store_row rfl 36 (.tmp 3) (.tmp 22) rfl (A + 1) #[.int .i64 0, .string ⟨#[]⟩, .int .i64 8] rfl rfl 36 _ KE.out.2.1 info36 rfl (three_one _ _ _) ?_
       have KF : Kp (Blk (w8.setRow (A + 1) #[.int .i64 0, .string ⟨#[]⟩, .int .i64 8]) A (rObj r0) ∧ Blk (w8.setRow (A + 1) #[.int .i64 0, .string ⟨#[]⟩, .int .i64 8]) (A + 1) (.cells #[.int .i64 0, .string ⟨#[]⟩, .int .i64 8] 36) ∧ Below w.heap.size w (w8.setRow (A + 1) #[.int .i64 0, .string ⟨#[]⟩, .int .i64 8])) := ⟨(setRow_other w8 (A + 1) A _ (Nat.succ_ne_self A).symm).trans KE.out.1, Blk.setRow KE.out.2.1 _, below_setRow KE.out.2.2 (by rw [HPN.out.A0]; exact Nat.le_succ _) _⟩
       revert KF
       generalize w8.setRow (A + 1) #[.int .i64 0, .string ⟨#[]⟩, .int .i64 8] = w9
       intro KF))
  try rw [Exit.noGoto_ret]
  exact bodyPost_ret (v := .tuple #[.agg (rc r0).toArray, .agg #[.int .i64 0, .string ⟨#[]⟩, .int .i64 8]]) (ret7 rfl rfl KF.out.1 KF.out.2.1) rfl (HP.out w9 KF.out.2.2)
set_option maxRecDepth 100000 in
set_option maxHeartbeats 12800000 in
theorem parse_short (s : ByteArray) (w : World) (hs : s.size ≤ 4096) (hk : Kon w) : Calls Tryd.prog 7 #[.string s] w (PPost s w) := by
  have hs' : (s.size : Int) ≤ 4096 := by omega
  have HK := Kp.mk hk
  have HSZ := Kp.mk hs
  have HZ := wZ
  obtain ⟨RES, hRES⟩ : ∃ RES, RES = runP (lines s) 0 ⟨dF, r0⟩ := ⟨_, rfl⟩
  have HPV : Kp (∀ w', Below w.heap.size w w' → PPost s w (.returned (.tuple #[.agg (rc (outP RES).1).toArray, .agg #[.int .i64 (outP RES).2.1, .string (outP RES).2.2.1, .int .i64 (outP RES).2.2.2]])) w') := ⟨fun w' hb => ⟨by rw [show outP RES = parseV s by unfold parseV; rw [if_neg (by omega), hRES]], hb⟩⟩
  have HR0 : Kp (runP ((lines s).drop 0) 0 ⟨dF, r0⟩ = RES) := ⟨by rw [hRES, List.drop_zero]⟩
  have HLS : Kp (∀ x ∈ lines s, x.size ≤ 4096) := ⟨fun x hx => Nat.le_trans (lines_size hx) hs⟩
  have HLL : Kp ((lines s).length ≤ 4097 ∧ (lines s).length = Lib.countB s nl + 1) := ⟨by
    refine ⟨?_, lines_len s⟩
    have h := lines_count s
    have h2 := lines_len s
    omega⟩
  have HSP := fun wx m hm => Tryd.strings_Split s nl m wx (by omega) hm (by decide)
  obtain ⟨LN, hLN⟩ : ∃ LN, LN = lines s := ⟨_, rfl⟩
  unfold lines at hLN
  obtain ⟨cn, hcn⟩ : ∃ cn, cn = Lib.countB s nl := ⟨_, rfl⟩
  rw [← hcn] at hLN
  simp only [← hcn, ← hLN] at HSP
  rw [show lines s = LN by rw [hLN, hcn]; rfl] at HR0 HLS HLL
  rw [← hcn] at HLL
  obtain ⟨A, hA⟩ : ∃ A, A = w.heap.size := ⟨_, rfl⟩
  have HA0 := Kp.mk hA
  have K1 : Kp (L0 w A (HB0 w) ∧ (HB0 w).heap.size = A + 2) := ⟨by have := hb0_is w; rw [← hA] at this; exact ⟨⟨this.1, this.2.1, by rw [hA] at this; exact this.2.2.1⟩, this.2.2.2⟩⟩
  have HS : Kp (HB0 w = (w.alloc (rObj r0)).alloc (.cells #[.int .i64 0, .string ⟨#[]⟩, .int .i64 0] 36)) := ⟨rfl⟩
  have hmm := @run_makeMap Tryd.prog
  clear hs hk hRES hLN hcn hA
  unfold nl at HSP
  go_enter Tryd.func7, Tryd.ntmps7
  go_upto_region 1 with (refine wpList_alloc_row rfl 33 rfl (rc r0).toArray 15 HZ.out.2.2 ?_)
  rw [← HS.out, ← HA0.out]
  revert K1
  generalize HB0 w = w1 at *
  intro K1
  clear HS
  go_step3
  go_wp2_with fail
  refine (default_any _).mono ?_
  rintro r w2 ⟨rfl, hb⟩
  have K2 : Kp (L0 w A w2 ∧ A + 2 ≤ w2.heap.size) := ⟨⟨K1.out.1.a.keep hb, K1.out.1.m.keep hb, K1.out.1.hb.trans (hb.mono K1.out.1.hb.size)⟩, by have := hb.size; have := K1.out.2; omega⟩
  clear hb K1
  obtain ⟨G, hG⟩ : ∃ G, G = w2.heap.size := ⟨_, rfl⟩
  have HG := Kp.mk hG
  have K3 : Kp (L0 w A (w2.alloc (rObj dF)) ∧ Blk (w2.alloc (rObj dF)) G (rObj dF) ∧ A + 1 < G ∧ (w2.alloc (rObj dF)).heap.size = G + 1) := ⟨⟨K2.out.1.a.old _, K2.out.1.m.old _, K2.out.1.hb.alloc K2.out.1.hb.size _⟩, Blk.newAt _ hG, by have := K2.out.2; omega, by rw [hG]; simp⟩
  have HID : Kp ((Tryd.prog.info? 33).map (·.size) = some (rc dF).toArray.size ∧ (rc dF).toArray.size = (rc r0).toArray.size) := ⟨info33s dF, by simp [rc_len]⟩
  clear hG K2
  go_upto_region 4 with (first
    | (refine wpList_alloc_row rfl 33 rfl (rc r0).toArray 15 HZ.out.2.2 ?_)
    | (refine wpList_store_row rfl 33 (.tmp 4) (.tmp 23) rfl w2.heap.size (rc dF).toArray rfl rfl 33 _ (Blk.new _ _) HID.out.1 HID.out.2.symm (all_oneCell_toArray (rc_one dF)) ?_
       rw [World.setRow_alloc_new]))
  rw [← HG.out]
  clear HG HID
  revert K3
  generalize w2.alloc (.cells (rc dF).toArray 33) = w3
  intro K3
  go_wp2_with fail
  refine (numbers_any G _).mono ?_
  rintro r w4 ⟨L, rfl, hL, hlL, hb⟩
  have K4 : Kp (L0 w A w4 ∧ Blk w4 G (rObj dF) ∧ A + 1 < G ∧ G < L ∧ Blk w4 L (nbObj G)) := ⟨⟨K3.out.1.a.keep hb, K3.out.1.m.keep hb, K3.out.1.hb.trans (hb.mono K3.out.1.hb.size)⟩, K3.out.2.1.keep hb, K3.out.2.2.1, by have := K3.out.2.2.2; omega, hL⟩
  clear hb hL hlL K3
  obtain ⟨Mp, hMp⟩ : ∃ Mp, Mp = w4.heap.size := ⟨_, rfl⟩
  obtain ⟨S, hS⟩ : ∃ S, S = Mp + 1 := ⟨_, rfl⟩
  have HPN : Kp (PN w A G L Mp S) := ⟨⟨HA0.out, K4.out.2.2.1, K4.out.2.2.2.1, by have := K4.out.2.2.2.2.lt; omega, by omega⟩⟩
  obtain ⟨w5, hw5⟩ : ∃ w5, w5 = w4.alloc (Obj.map #[] 0) := ⟨_, rfl⟩
  have K5 : Kp (PM w A G L Mp S 0 LN dF r0 (w5.alloc (.cells (LN.map .string).toArray 9)) ∧ Below w.heap.size w w5 ∧ w5.heap.size = S) := ⟨by
    have h1 : w5.heap.size = S := by rw [hw5, hS, hMp]; simp
    have hb5 : Below w4.heap.size w4 w5 := by rw [hw5]; exact more (Below.refl _ _) _
    have hb6 : Below w4.heap.size w4 (w5.alloc (.cells (LN.map .string).toArray 9)) := more hb5 _
    have hw : Below w.heap.size w w5 := K4.out.1.hb.trans (hb5.mono K4.out.1.hb.size)
    refine ⟨⟨K4.out.1.a.keep hb6, K4.out.1.m.keep hb6, K4.out.2.1.keep hb6, K4.out.2.2.2.2.keep hb6, Blk.newAt _ h1.symm, ?_, K4.out.1.hb.trans (hb6.mono K4.out.1.hb.size)⟩, hw, h1⟩
    rw [hMp]
    have := MapS.made w4
    rw [← hw5] at this
    exact this.keep (more (Below.refl _ _) _)⟩
  have HW5 := Kp.mk hw5
  have HMP := Kp.mk hMp
  obtain ⟨mm, hml⟩ := (HK.out.keep K5.out.2.1).ml
  have HSP5 := HSP w5 mm hml
  rw [K5.out.2.2, ← HLL.out.2] at HSP5
  clear hMp hS hw5 K4 hml HSP
  go_wp2_with fail
  go_step3
  go_upto_region 5 with fail
  rw [← HW5.out, ← HMP.out]
  clear HW5 HMP hmm
  go_wp2_with fail
  refine HSP5.mono ?_
  rintro r w6 ⟨rfl, hw⟩
  have K6 : Kp (PM w A G L Mp S 0 LN dF r0 w6) := ⟨by rw [hw]; exact K5.out.1⟩
  clear hw K5 HSP5
  have hll : LN.length ≤ 4097 := HLL.out.1
  have HLC : Kp (cn + 1 = LN.length) := ⟨HLL.out.2.symm⟩
  have ID : Kp (I64s dF) := ⟨dF_ok⟩
  go_wp2_with fail
  go_loopw [29] (fun ct wr => ∃ (j n : Nat) (f st : Nat → Int), j ≤ LN.length ∧ ct = .int .i64 j ∧ n ≤ j ∧ Kp (I64s f) ∧ Kp (runP (LN.drop j) j ⟨f, st⟩ = RES) ∧ Kp (PM w A G L Mp S n LN f st wr)) (fun ct _ => LN.length - (intOf ct).toNat)
  case atStart => exact ⟨0, 0, dF, r0, Nat.zero_le _, rfl, Nat.le_refl _, ID, HR0, K6⟩
  case round =>
    clear K6 HR0 ID
    obtain ⟨j, n, f, st, hj, rfl, hn, IF, HR, K7⟩ := hrel
    by_cases hjl : j < LN.length
    · have hjl' : (j : Int) < (LN.length : Int) := by omega
      have HJL : Kp (j < LN.length ∧ n ≤ j) := ⟨hjl, hn⟩
      obtain ⟨l, hl⟩ : ∃ l, l = LN[j] := ⟨_, rfl⟩
      have hsl : l.size ≤ 4096 := HLS.out l (by rw [hl]; exact List.getElem_mem _)
      have hcl : wr.cell? ⟨S, j, none⟩ = some (.string l) := (K7.out.s.cell j).trans (by rw [List.getElem?_toArray, List.getElem?_map, List.getElem?_eq_getElem hjl, hl]; rfl)
      have HR2 : Kp (runP (l :: LN.drop (j + 1)) j ⟨f, st⟩ = RES) := ⟨by rw [← HR.out, List.drop_eq_getElem_cons hjl, hl]⟩
      have HSL := Kp.mk hsl
      clear hl hj hn HR hsl hjl
      rcases hd : l.data.toList with _ | ⟨c, r⟩
      · have hE : l.toList.isEmpty = true := by rw [ByteArray.toList_eq, hd]; rfl
        have HN : Kp (runP (LN.drop (j + 1)) (j + 1) ⟨f, st⟩ = RES) := ⟨by rw [← HR2.out]; exact (runP_skip (by unfold skipB; simp [hd])).symm⟩
        clear hd
        go_wp2_with fail
        exact ⟨⟨j + 1, n, f, st, by have := HJL.out; omega, by go_num, by have := HJL.out; omega, IF, HN, K7⟩, by have := HJL.out; simp [intOf]; omega⟩
      · have hE : l.toList.isEmpty = false := by rw [ByteArray.toList_eq, hd]; rfl
        have hix := first_byte hd
        by_cases h35 : c = 35
        · subst h35
          have HN : Kp (runP (LN.drop (j + 1)) (j + 1) ⟨f, st⟩ = RES) := ⟨by rw [← HR2.out]; exact (runP_skip (by unfold skipB; simp [hd])).symm⟩
          clear hd
          go_wp2_with fail
          exact ⟨⟨j + 1, n, f, st, by have := HJL.out; omega, by go_num, by have := HJL.out; omega, IF, HN, K7⟩, by have := HJL.out; simp [intOf]; omega⟩
        · have hc : ((c.toNat : Int) == 35) = false := by
            simp
            intro h
            exact h35 (UInt8.toNat_inj.1 (by rw [show c.toNat = 35 by omega]; rfl))
          have hsk : skipB l = false := by unfold skipB; rw [hd]; simpa using h35
          have HSK : Kp (skipB l = false) := ⟨hsk⟩
          have HCUT := fun wx m hm => Tryd.strings_Cut l ⟨#[32]⟩ m wx (by have := HSL.out; omega) hm
          simp only [show (ByteArray.mk (Lib.cut l.data.toList (ByteArray.mk #[32]).data.toList).1.toArray) = cutN l from rfl, show (ByteArray.mk (Lib.cut l.data.toList (ByteArray.mk #[32]).data.toList).2.1.toArray) = cutV l from rfl] at HCUT
          generalize (Lib.cut l.data.toList (ByteArray.mk #[32]).data.toList).2.2 = cb at HCUT
          have hcs := cut_size l
          have HPN2 := fun wx hx => pnum_any (cutV l) (by have := HSL.out; omega) wx hx
          have HNS : Kp ((cutN l).size ≤ maxLen) := ⟨by have := HSL.out; unfold maxLen; omega⟩
          obtain ⟨nm, hnm⟩ : ∃ nm, nm = cutN l := ⟨_, rfl⟩
          obtain ⟨vl, hvl⟩ : ∃ vl, vl = cutV l := ⟨_, rfl⟩
          rw [← hnm] at HNS
          rw [← hvl] at HPN2
          have HNV : Kp (nm = cutN l ∧ vl = cutV l) := ⟨hnm, hvl⟩
          simp only [← hnm, ← hvl] at HCUT
          obtain ⟨mm, hml⟩ := (HK.out.keep K7.out.hb).ml
          have HCUT2 := HCUT wr mm hml
          clear hnm hvl hcs hsk hd h35 HCUT hml
          go_wp2_with fail
          refine HCUT2.mono ?_
          rintro e w8 ⟨rfl, nd, hw⟩
          have K8 : Kp (PM w A G L Mp S n LN f st w8) := ⟨by rw [hw]; exact K7.out.keep (Below.drewNs (Below.refl _ _) nd)⟩
          clear hw HCUT2 K7 hcl hix
          go_wp2_with fail
          refine (HPN2 _ (HK.out.keep K8.out.hb)).mono ?_
          rintro e w9 ⟨rfl, hb⟩
          have K9 : Kp (PM w A G L Mp S n LN f st w9) := ⟨K8.out.keep hb⟩
          clear hb K8 HPN2
          cases hv : numV vl with
          | none =>
            have HP : Kp (∀ w', Below w.heap.size w w' → PPost s w (.returned (.tuple #[.agg (rc r0).toArray, .agg #[.int .i64 ((j : Int) + 1), .string nm, .int .i64 10]])) w') := ⟨fun w' hb => by have := HPV.out w' hb; rw [← HR2.out, runP_form HSK.out (by rw [← HNV.out.2]; exact hv), ← HNV.out.1] at this; exact this⟩
            clear hv
            go_wp2_with (first
              | (refine wpList_build_eq rfl 33 #[] rfl #[] (by simp) (rc r0).toArray HZ.out.1 ?_)
              | (refine wpList_store_row rfl 33 (.tmp 2) (.tmp 54) rfl A (rc r0).toArray rfl rfl 33 _ K9.out.a HZ.out.2.1 rfl (all_oneCell_toArray (rc_one r0)) ?_
                 have KE : Kp (Blk (w9.setRow A (rc r0).toArray) A (rObj r0) ∧ Blk (w9.setRow A (rc r0).toArray) (A + 1) (.cells #[.int .i64 0, .string ⟨#[]⟩, .int .i64 0] 36) ∧ Below w.heap.size w (w9.setRow A (rc r0).toArray)) := ⟨Blk.setRow K9.out.a _, (setRow_other w9 A (A + 1) _ (Nat.succ_ne_self A)).trans K9.out.m, below_setRow K9.out.hb (by rw [HPN.out.A0]; exact Nat.le_refl _) _⟩
                 revert KE
                 generalize w9.setRow A (rc r0).toArray = w8
                 intro KE)
              | (refine wpList_store_row rfl 36 (.tmp 3) (.tmp 58) rfl (A + 1) #[.int .i64 ((j : Int) + 1), .string nm, .int .i64 10] rfl rfl 36 _ KE.out.2.1 info36 rfl (three_one _ _ _) ?_
                 have KF : Kp (Blk (w8.setRow (A + 1) #[.int .i64 ((j : Int) + 1), .string nm, .int .i64 10]) A (rObj r0) ∧ Blk (w8.setRow (A + 1) #[.int .i64 ((j : Int) + 1), .string nm, .int .i64 10]) (A + 1) (.cells #[.int .i64 ((j : Int) + 1), .string nm, .int .i64 10] 36) ∧ Below w.heap.size w (w8.setRow (A + 1) #[.int .i64 ((j : Int) + 1), .string nm, .int .i64 10])) := ⟨(setRow_other w8 (A + 1) A _ (Nat.succ_ne_self A).symm).trans KE.out.1, Blk.setRow KE.out.2.1 _, below_setRow KE.out.2.2 (by rw [HPN.out.A0]; exact Nat.le_succ _) _⟩
                 revert KF
                 generalize w8.setRow (A + 1) #[.int .i64 ((j : Int) + 1), .string nm, .int .i64 10] = w9
                 intro KF))
            try rw [Exit.noGoto_ret]
            exact bodyPost_ret (v := .tuple #[.agg (rc r0).toArray, .agg #[.int .i64 ((j : Int) + 1), .string nm, .int .i64 10]]) (ret7 rfl rfl KF.out.1 KF.out.2.1) rfl (HP.out w9 KF.out.2.2)
          | some v =>
            have hv2 := hv
            rw [HNV.out.2] at hv2
            have hlk := K9.out.mp.run HNS.out
            obtain ⟨x, hx⟩ : ∃ x, x = stN st nm := ⟨_, rfl⟩
            rw [← hx] at hlk
            by_cases hp : 0 < x
            · have HP : Kp (∀ w', Below w.heap.size w w' → PPost s w (.returned (.tuple #[.agg (rc r0).toArray, .agg #[.int .i64 ((j : Int) + 1), .string nm, .int .i64 7]])) w') := ⟨fun w' hb => by have := HPV.out w' hb; rw [← HR2.out, runP_twice HSK.out hv2 (by rw [← HNV.out.1, ← hx]; exact hp), ← HNV.out.1] at this; exact this⟩
              clear hv hv2 hx
              go_wp2_with (first
                | (refine wpList_build_eq rfl 33 #[] rfl #[] (by simp) (rc r0).toArray HZ.out.1 ?_)
                | (refine wpList_store_row rfl 33 (.tmp 2) (.tmp 63) rfl A (rc r0).toArray rfl rfl 33 _ K9.out.a HZ.out.2.1 rfl (all_oneCell_toArray (rc_one r0)) ?_
                   have KE : Kp (Blk (w9.setRow A (rc r0).toArray) A (rObj r0) ∧ Blk (w9.setRow A (rc r0).toArray) (A + 1) (.cells #[.int .i64 0, .string ⟨#[]⟩, .int .i64 0] 36) ∧ Below w.heap.size w (w9.setRow A (rc r0).toArray)) := ⟨Blk.setRow K9.out.a _, (setRow_other w9 A (A + 1) _ (Nat.succ_ne_self A)).trans K9.out.m, below_setRow K9.out.hb (by rw [HPN.out.A0]; exact Nat.le_refl _) _⟩
                   revert KE
                   generalize w9.setRow A (rc r0).toArray = w8
                   intro KE)
                | (refine wpList_store_row rfl 36 (.tmp 3) (.tmp 67) rfl (A + 1) #[.int .i64 ((j : Int) + 1), .string nm, .int .i64 7] rfl rfl 36 _ KE.out.2.1 info36 rfl (three_one _ _ _) ?_
                   have KF : Kp (Blk (w8.setRow (A + 1) #[.int .i64 ((j : Int) + 1), .string nm, .int .i64 7]) A (rObj r0) ∧ Blk (w8.setRow (A + 1) #[.int .i64 ((j : Int) + 1), .string nm, .int .i64 7]) (A + 1) (.cells #[.int .i64 ((j : Int) + 1), .string nm, .int .i64 7] 36) ∧ Below w.heap.size w (w8.setRow (A + 1) #[.int .i64 ((j : Int) + 1), .string nm, .int .i64 7])) := ⟨(setRow_other w8 (A + 1) A _ (Nat.succ_ne_self A).symm).trans KE.out.1, Blk.setRow KE.out.2.1 _, below_setRow KE.out.2.2 (by rw [HPN.out.A0]; exact Nat.le_succ _) _⟩
                   revert KF
                   generalize w8.setRow (A + 1) #[.int .i64 ((j : Int) + 1), .string nm, .int .i64 7] = w9
                   intro KF))
              try rw [Exit.noGoto_ret]
              exact bodyPost_ret (v := .tuple #[.agg (rc r0).toArray, .agg #[.int .i64 ((j : Int) + 1), .string nm, .int .i64 7]]) (ret7 rfl rfl KF.out.1 KF.out.2.1) rfl (HP.out w9 KF.out.2.2)
            · have HV : Kp (-9223372036854775808 ≤ v ∧ v ≤ 9223372036854775807) := ⟨numV_ok hv⟩
              have HST : Kp (∀ i, ixN nm = i → i < 15 → runP (LN.drop (j + 1)) (j + 1) ⟨upd f i v, upd st i (j + 1 : Nat)⟩ = RES) := ⟨fun i h1 h2 => by rw [← HR2.out, runP_set HSK.out hv2 (by rw [← HNV.out.1, ← hx]; exact hp) (by rw [← HNV.out.1, h1]; exact h2), ← HNV.out.1, h1]⟩
              have HSN : Kp (¬ ixN nm < 15 → RES = (some (((j + 1 : Nat) : Int), nm, (6 : Int)), (⟨f, st⟩ : PS))) := ⟨fun h1 => by rw [← HR2.out, runP_none HSK.out hv2 (by rw [← HNV.out.1, ← hx]; exact hp) (by rw [← HNV.out.1]; exact h1), ← HNV.out.1]⟩
              clear hv hv2 hx
              go_upto_region 15 with fail
              clear hlk hp
              go_wp2_with fail
              go_loopw [70] (fun c2 wx => ∃ i : Nat, i ≤ 15 ∧ c2 = .int .i64 i ∧ Kp (ixR nm (15 - i) i = ixN nm) ∧ Kp (PM w A G L Mp S n LN f st wx)) (fun c2 _ => 15 - (intOf c2).toNat)
              case atStart => exact ⟨0, by omega, rfl, ⟨rfl⟩, K9⟩
              case round =>
                clear K9
                obtain ⟨i, hi, rfl, HI, K9⟩ := hrel
                by_cases hlt : i < 15
                · have hlt' : (i : Int) < 15 := by omega
                  have HLT := Kp.mk hlt
                  have hrg := nb_cells K9.out.l hlt
                  have n0 : wr.cell? ⟨L, i * 5, none⟩ = some (.string (nmA i)) := hrg 0 _ rfl
                  have n1 : wr.cell? ⟨L, i * 5 + 1, none⟩ = some (.int .i64 (ls i)) := hrg 1 _ rfl
                  have n2 : wr.cell? ⟨L, i * 5 + 2, none⟩ = some (.int .i64 (gt i)) := hrg 2 _ rfl
                  have n3 : wr.cell? ⟨L, i * 5 + 3, none⟩ = some (.int .i64 (us i)) := hrg 3 _ rfl
                  have n4 : wr.cell? ⟨L, i * 5 + 4, none⟩ = some (.pointer (some ⟨G, i, none⟩)) := hrg 4 _ rfl
                  have HIS : Kp (ixN nm = if ((nmA i).toList == nm.toList) = true then i else ixR nm (15 - (i + 1)) (i + 1)) := ⟨by rw [← HI.out, ixR_step nm hlt]⟩
                  have KA : Kp (∀ o, PM w A G L Mp S n LN f st (wr.alloc o)) := ⟨fun o => K9.out.alloc o⟩
                  have KG : Kp (∀ o, (wr.alloc o).cell? ⟨G, i, none⟩ = some (.int .i64 (f i)) ∧ (wr.alloc o).frozen? ⟨G, i, none⟩ = false ∧ G < (wr.alloc o).heap.size) := ⟨fun o => ⟨(K9.out.g.old o).rc HLT.out, (K9.out.g.old o).frozen i, (K9.out.g.old o).lt⟩⟩
                  obtain ⟨ni, hni⟩ : ∃ ni, ni = nmA i := ⟨_, rfl⟩
                  rw [← hni] at n0 HIS
                  generalize ls i = li at n1
                  generalize gt i = gi at n2
                  generalize us i = ui at n3
                  clear hrg hlt hni HI K9
                  cases hq : (ni.toList == nm.toList) with
                  | false =>
                    have HI2 : Kp (ixR nm (15 - (i + 1)) (i + 1) = ixN nm) := ⟨by rw [HIS.out, if_neg (by rw [hq]; simp)]⟩
                    clear HIS
                    go_wp2_with fail
                    exact ⟨⟨i + 1, by have := HLT.out; omega, by go_num, HI2, ⟨KA.out _⟩⟩, by have := HLT.out; simp [intOf]; omega⟩
                  | true =>
                    have HXI : Kp (ixN nm = i) := ⟨by rw [HIS.out, if_pos hq]⟩
                    clear HIS
                    obtain ⟨X, hX⟩ : ∃ X, X = wr.heap.size := ⟨_, rfl⟩
                    have HX := Kp.mk hX
                    clear hX
                    go_upto_region 19 with fail
                    obtain ⟨w10, hw10⟩ : ∃ w10, w10 = wr.alloc (.cells #[.string ni, .int .i64 li, .int .i64 gi, .int .i64 ui, .pointer (some ⟨G, i, none⟩)] 75) := ⟨_, rfl⟩
                    rw [← hw10, ← HX.out]
                    have x4 : w10.cell? ⟨X, 4, none⟩ = some (.pointer (some ⟨G, i, none⟩)) := by rw [hw10, HX.out]; exact (Blk.new _ _).cell 4
                    have g0 : w10.cell? ⟨G, i, none⟩ = some (.int .i64 (f i)) := by rw [hw10]; exact (KG.out _).1
                    have gz : w10.frozen? ⟨G, i, none⟩ = false := by rw [hw10]; exact (KG.out _).2.1
                    have lG : G < w10.heap.size := by rw [hw10]; exact (KG.out _).2.2
                    have K11 : Kp (PM w A G L Mp S n LN (upd f i v) st (w10.setCell ⟨G, i, none⟩ (.int .i64 v))) := ⟨by rw [hw10]; exact (KA.out _).set HPN.out i v⟩
                    clear hw10 KA KG n0 n1 n2 n3 n4
                    go_upto_region 20 with fail
                    clear x4 g0 gz lG
                    revert K11
                    generalize w10.setCell ⟨G, i, none⟩ (.int .i64 v) = w11
                    intro K11
                    obtain ⟨D, hown, hD, hF⟩ := K11.out.mp
                    have HOWN := Kp.mk hown
                    have HDF : Kp (IsMap D ∧ ∀ x : ByteArray, x.size ≤ maxLen → D.atKey (.string x.data.toList) (.lit (.int .i64 0)) = .lit (.int .i64 (stN st x))) := ⟨hD, hF⟩
                    have HWF : Kp ((Lit.int .i64 ((j : Int) + 1)).wf = true) := ⟨by have := HJL.out.1; simp [Lit.wf, IntKind.min, IntKind.max, IntKind.signed, IntKind.bits]; omega⟩
                    have HNM : Kp (n < maxLen) := ⟨by have := HJL.out; unfold maxLen; omega⟩
                    have IF2 : Kp (I64s (upd f i v)) := ⟨fun k => by
                      unfold upd
                      split
                      · exact HV.out
                      · exact IF.out k⟩
                    have HN2 : Kp (runP (LN.drop (j + 1)) (j + 1) ⟨upd f i v, upd st i (j + 1 : Nat)⟩ = RES) := ⟨HST.out i HXI.out HLT.out⟩
                    clear hown hD hF
                    go_wp2_with (at_mapUpdate; refine wpList_mapUpdate_own _ rfl _ _ _ 67 rfl 9 3 law9 Tryd.underlying67 _ Mp n D rfl HOWN.out HNM.out _ _ _ rfl rfl (key9 HNS.out) _ [] (plainElem_int Tryd.underlying3 HWF.out) ?_; intro w12 ho12 hg12; (have K12 : Kp (PM w A G L Mp S (n + 1) LN (upd f i v) (upd st i (j + 1 : Nat)) w12) := ⟨K11.out.put HPN.out ⟨_, ho12, HDF.out.1.put _ _, by have h := put_at (v := (j + 1 : Nat)) HNS.out (by rw [HXI.out]; exact HLT.out) HDF.out.1 HDF.out.2; rw [HXI.out] at h; exact h⟩ hg12⟩); clear ho12 hg12)
                    exact ⟨⟨j + 1, n + 1, upd f i v, upd st i (j + 1 : Nat), by have := HJL.out; omega, by go_num, by have := HJL.out; omega, IF2, HN2, K12⟩, by have := HJL.out; simp [intOf]; omega⟩
                · have hi15 : i = 15 := by omega
                  subst hi15
                  have HXI : Kp (¬ ixN nm < 15) := ⟨by rw [← HI.out]; exact Nat.lt_irrefl 15⟩
                  have HP : Kp (∀ w', Below w.heap.size w w' → PPost s w (.returned (.tuple #[.agg (rc r0).toArray, .agg #[.int .i64 ((j : Int) + 1), .string nm, .int .i64 6]])) w') := ⟨fun w' hb => by have := HPV.out w' hb; rw [HSN.out HXI.out] at this; exact this⟩
                  clear HST hlt hi HI
                  go_wp2_with (first
                    | (refine wpList_build_eq rfl 33 #[] rfl #[] (by simp) (rc r0).toArray HZ.out.1 ?_)
                    | (refine wpList_store_row rfl 33 (.tmp 2) (.tmp 87) rfl A (rc r0).toArray rfl rfl 33 _ K9.out.a HZ.out.2.1 rfl (all_oneCell_toArray (rc_one r0)) ?_
                       have KE : Kp (Blk (wr.setRow A (rc r0).toArray) A (rObj r0) ∧ Blk (wr.setRow A (rc r0).toArray) (A + 1) (.cells #[.int .i64 0, .string ⟨#[]⟩, .int .i64 0] 36) ∧ Below w.heap.size w (wr.setRow A (rc r0).toArray)) := ⟨Blk.setRow K9.out.a _, (setRow_other wr A (A + 1) _ (Nat.succ_ne_self A)).trans K9.out.m, below_setRow K9.out.hb (by rw [HPN.out.A0]; exact Nat.le_refl _) _⟩
                       revert KE
                       generalize wr.setRow A (rc r0).toArray = w8
                       intro KE)
                    | (refine wpList_store_row rfl 36 (.tmp 3) (.tmp 91) rfl (A + 1) #[.int .i64 ((j : Int) + 1), .string nm, .int .i64 6] rfl rfl 36 _ KE.out.2.1 info36 rfl (three_one _ _ _) ?_
                       have KF : Kp (Blk (w8.setRow (A + 1) #[.int .i64 ((j : Int) + 1), .string nm, .int .i64 6]) A (rObj r0) ∧ Blk (w8.setRow (A + 1) #[.int .i64 ((j : Int) + 1), .string nm, .int .i64 6]) (A + 1) (.cells #[.int .i64 ((j : Int) + 1), .string nm, .int .i64 6] 36) ∧ Below w.heap.size w (w8.setRow (A + 1) #[.int .i64 ((j : Int) + 1), .string nm, .int .i64 6])) := ⟨(setRow_other w8 (A + 1) A _ (Nat.succ_ne_self A).symm).trans KE.out.1, Blk.setRow KE.out.2.1 _, below_setRow KE.out.2.2 (by rw [HPN.out.A0]; exact Nat.le_succ _) _⟩
                       revert KF
                       generalize w8.setRow (A + 1) #[.int .i64 ((j : Int) + 1), .string nm, .int .i64 6] = w9
                       intro KF))
                  try rw [Exit.noGoto_ret]
                  exact bodyPost_ret (v := .tuple #[.agg (rc r0).toArray, .agg #[.int .i64 ((j : Int) + 1), .string nm, .int .i64 6]]) (ret7 rfl rfl KF.out.1 KF.out.2.1) rfl (HP.out w9 KF.out.2.2)
    · have hjl' : (LN.length : Int) ≤ (j : Int) := by omega
      have HRE : Kp (RES = (none, ⟨f, st⟩)) := ⟨by rw [← HR.out, List.drop_eq_nil_of_le (by omega)]; rfl⟩
      clear HR hjl hj hn
      go_wp2_with (refine wpList_load_row rfl 33 (.tmp 4) rfl G rfl 33 _ (0, 0) _ K7.out.g Tryd.underlying33 rfl (info33s f) ?_)
      refine (check_any f IF.out _).mono ?_
      rintro e w8 ⟨rfl, hb⟩
      have K8 : Kp (PM w A G L Mp S n LN f st w8) := ⟨K7.out.keep hb⟩
      clear hb K7
      by_cases hc : ck f = 15
      · have hE : ckE f = 0 := by unfold ckE; rw [if_pos hc]
        have HP : Kp (∀ w', Below w.heap.size w w' → PPost s w (.returned (.tuple #[.agg (rc f).toArray, .agg #[.int .i64 0, .string ⟨#[]⟩, .int .i64 0]])) w') := ⟨fun w' hb => by have := HPV.out w' hb; rw [HRE.out, outP_none, if_pos hc] at this; exact this⟩
        have HIF : Kp ((Tryd.prog.info? 33).map (·.size) = some (rc f).toArray.size ∧ (rc r0).toArray.size = (rc f).toArray.size ∧ (rc f).toArray.all (·.oneCell') = true) := ⟨info33s f, by simp [rc_len], all_oneCell_toArray (rc_one f)⟩
        clear hc
        go_wp2_with (first
          | (refine wpList_load_row rfl 33 (.tmp 4) rfl G rfl 33 _ (0, 0) _ K8.out.g Tryd.underlying33 rfl HIF.out.1 ?_)
          | (refine wpList_store_row rfl 33 (.tmp 2) (.tmp 107) rfl A (rc f).toArray rfl rfl 33 _ K8.out.a HIF.out.1 HIF.out.2.1 HIF.out.2.2 ?_
             have KE : Kp (Blk (w8.setRow A (rc f).toArray) A (rObj f) ∧ Blk (w8.setRow A (rc f).toArray) (A + 1) (.cells #[.int .i64 0, .string ⟨#[]⟩, .int .i64 0] 36) ∧ Below w.heap.size w (w8.setRow A (rc f).toArray)) := ⟨Blk.setRow K8.out.a _, (setRow_other w8 A (A + 1) _ (Nat.succ_ne_self A)).trans K8.out.m, below_setRow K8.out.hb (by rw [HPN.out.A0]; exact Nat.le_refl _) _⟩
             revert KE
             generalize w8.setRow A (rc f).toArray = w9
             intro KE)
          | (refine wpList_store_row rfl 36 (.tmp 3) (.tmp 108) rfl (A + 1) #[.int .i64 0, .string ⟨#[]⟩, .int .i64 0] rfl rfl 36 _ KE.out.2.1 info36 rfl (three_one _ _ _) ?_
             have KF : Kp (Blk (w9.setRow (A + 1) #[.int .i64 0, .string ⟨#[]⟩, .int .i64 0]) A (rObj f) ∧ Blk (w9.setRow (A + 1) #[.int .i64 0, .string ⟨#[]⟩, .int .i64 0]) (A + 1) (.cells #[.int .i64 0, .string ⟨#[]⟩, .int .i64 0] 36) ∧ Below w.heap.size w (w9.setRow (A + 1) #[.int .i64 0, .string ⟨#[]⟩, .int .i64 0])) := ⟨(setRow_other w9 (A + 1) A _ (Nat.succ_ne_self A).symm).trans KE.out.1, Blk.setRow KE.out.2.1 _, below_setRow KE.out.2.2 (by rw [HPN.out.A0]; exact Nat.le_succ _) _⟩
             revert KF
             generalize w9.setRow (A + 1) #[.int .i64 0, .string ⟨#[]⟩, .int .i64 0] = w10
             intro KF))
        try rw [Exit.noGoto_ret]
        exact bodyPost_ret (v := .tuple #[.agg (rc f).toArray, .agg #[.int .i64 0, .string ⟨#[]⟩, .int .i64 0]]) (ret7 rfl rfl KF.out.1 KF.out.2.1) rfl (HP.out w10 KF.out.2.2)
      · have hE : ckE f = 30 := by unfold ckE; rw [if_neg hc]
        have HP : Kp (∀ w', Below w.heap.size w w' → PPost s w (.returned (.tuple #[.agg (rc r0).toArray, .agg #[.int .i64 (stN st (nmA (ck f))), .string (nmA (ck f)), .int .i64 30]])) w') := ⟨fun w' hb => by have := HPV.out w' hb; rw [HRE.out, outP_none, if_neg hc] at this; exact this⟩
        have HNZ : Kp ((nmA (ck f)).size ≤ maxLen) := ⟨nmA_size _⟩
        obtain ⟨nm, hnm⟩ : ∃ nm, nm = nmA (ck f) := ⟨_, rfl⟩
        rw [← hnm] at HP HNZ
        rw [← hnm]
        obtain ⟨x, hx⟩ : ∃ x, x = stN st nm := ⟨_, rfl⟩
        rw [← hx] at HP
        have HX := Kp.mk hx
        clear hc hnm hx
        go_wp2_with fail
        refine wp_region_held_drew (S := fun w' => SQ w A Mp n st w') (by kernel_rfl) (SQ.of (K8.out.keep (Below.drew (Below.refl _ _)))) (fun hH => ?_)
        refine wpAnyH_take (i := 0) (oi := { dst := some 100, op := Op.build 33 #[], type := 33, pos := "config.go:129", after := #[], guard := none }) (v := .agg (rc r0).toArray) rfl (by kernel_rfl) (by kernel_rfl) (by kernel_rfl) (fun _ _ _ h => h) (Or.inl ⟨by rfl, fun wx hS => by
            first | (go_simp; done) | (go_simp; rfl)⟩) hH ?_
        simp only [Act.put, List.setIfInBounds_toArray, List.set_cons_zero, List.set_cons_succ]
        refine wpAnyH_take (i := 1) (oi := { dst := some 101, op := Op.move (Operand.tmp 6), type := 67, pos := "config.go:129", after := #[{ on := 7, ground := Ground.gcOnly Departure.lateStores }], guard := none }) (v := .map (some Mp)) rfl (by kernel_rfl) (by kernel_rfl) (by kernel_rfl) (fun _ _ _ h => h) (Or.inl ⟨by rfl, fun wx hS => by
            first | (go_simp; done) | (go_simp; rfl)⟩) hH ?_
        simp only [Act.put, List.setIfInBounds_toArray, List.set_cons_zero, List.set_cons_succ]
        refine wpAnyH_take (i := 2) (oi := { dst := some 102, op := Op.move (Operand.tmp 16), type := 9, pos := "config.go:129", after := #[{ on := 7, ground := Ground.gcOnly Departure.lateStores }], guard := none }) (v := .string nm) rfl (by kernel_rfl) (by kernel_rfl) (by kernel_rfl) (fun _ _ _ h => h) (Or.inl ⟨by rfl, fun wx hS => by
            first | (go_simp; done) | (go_simp; rfl)⟩) hH ?_
        simp only [Act.put, List.setIfInBounds_toArray, List.set_cons_zero, List.set_cons_succ]
        refine wpAnyH_take (i := 3) (oi := { dst := some 103, op := Op.lookup 67 (Operand.tmp 101) (Operand.tmp 102) false, type := 3, pos := "config.go:129", after := #[{ on := 1, ground := Ground.data }, { on := 2, ground := Ground.data }, { on := 7, ground := Ground.gcOnly Departure.lateStores }], guard := none }) (v := .int .i64 x) rfl (by kernel_rfl) (by kernel_rfl) (by kernel_rfl) (fun _ _ _ h => h) (Or.inl ⟨by rfl, fun wx hS => by
            have hlk := hS.mp.run HNZ.out
            rw [← HX.out] at hlk
            first | (go_simp; done) | (go_simp; rfl)⟩) hH ?_
        simp only [Act.put, List.setIfInBounds_toArray, List.set_cons_zero, List.set_cons_succ]
        refine wpAnyH_take (i := 4) (oi := { dst := some 104, op := Op.move (Operand.tmp 16), type := 9, pos := "config.go:129", after := #[{ on := 7, ground := Ground.gcOnly Departure.lateStores }], guard := none }) (v := .string nm) rfl (by kernel_rfl) (by kernel_rfl) (by kernel_rfl) (fun _ _ _ h => h) (Or.inl ⟨by rfl, fun wx hS => by
            first | (go_simp; done) | (go_simp; rfl)⟩) hH ?_
        simp only [Act.put, List.setIfInBounds_toArray, List.set_cons_zero, List.set_cons_succ]
        refine wpAnyH_take (i := 5) (oi := { dst := some 105, op := Op.move (Operand.tmp 17), type := 34, pos := "config.go:129", after := #[{ on := 7, ground := Ground.gcOnly Departure.lateStores }], guard := none }) (v := .int .i64 30) rfl (by kernel_rfl) (by kernel_rfl) (by kernel_rfl) (fun _ _ _ h => h) (Or.inl ⟨by rfl, fun wx hS => by
            first | (go_simp; done) | (go_simp; rfl)⟩) hH ?_
        simp only [Act.put, List.setIfInBounds_toArray, List.set_cons_zero, List.set_cons_succ]
        refine wpAnyH_take (i := 6) (oi := { dst := some 106, op := Op.build 36 #[(0, Operand.tmp 103), (1, Operand.tmp 104), (2, Operand.tmp 105)], type := 36, pos := "config.go:129", after := #[{ on := 3, ground := Ground.data }, { on := 4, ground := Ground.data }, { on := 5, ground := Ground.data }, { on := 7, ground := Ground.gcOnly Departure.lateStores }], guard := none }) (v := .agg #[.int .i64 x, .string nm, .int .i64 30]) rfl (by kernel_rfl) (by kernel_rfl) (by kernel_rfl) (fun _ _ _ h => h) (Or.inl ⟨by rfl, fun wx hS => by
            first | (go_simp; done) | (go_simp; rfl)⟩) hH ?_
        simp only [Act.put, List.setIfInBounds_toArray, List.set_cons_zero, List.set_cons_succ]
        clear K8
        refine wpAnyH_store (i := 7) (o := { dst := none, op := Op.store 33 (Operand.tmp 2) (Operand.tmp 100), type := 0, pos := "config.go:129", after := #[{ on := 0, ground := Ground.data }, { on := 0, ground := Ground.phase }, { on := 1, ground := Ground.textOnly Departure.lateStores }, { on := 2, ground := Ground.textOnly Departure.lateStores }, { on := 3, ground := Ground.textOnly Departure.lateStores }, { on := 4, ground := Ground.textOnly Departure.lateStores }, { on := 5, ground := Ground.textOnly Departure.lateStores }, { on := 6, ground := Ground.textOnly Departure.lateStores }], guard := none }) (by kernel_rfl) (by kernel_rfl) rfl rfl 33 (.tmp 2) (.tmp 100) rfl A (rc r0).toArray (by kernel_rfl) (by kernel_rfl) 33 _ hH.a HZ.out.2.1 rfl (all_oneCell_toArray (rc_one r0)) (hH.one HPN.out) ?_
        have hH2 := hH.one HPN.out
        clear hH
        revert hH2
        generalize World.setRow _ A (rc r0).toArray = w10
        intro hH
        obtain ⟨m1, m2, m3, hM⟩ := hH.m
        refine wpAnyH_store (i := 8) (o := { dst := none, op := Op.store 36 (Operand.tmp 3) (Operand.tmp 106), type := 0, pos := "config.go:129", after := #[{ on := 6, ground := Ground.data }, { on := 7, ground := Ground.chain }, { on := 0, ground := Ground.phase }, { on := 1, ground := Ground.phase }, { on := 2, ground := Ground.phase }, { on := 3, ground := Ground.phase }, { on := 4, ground := Ground.phase }, { on := 5, ground := Ground.phase }, { on := 6, ground := Ground.phase }, { on := 7, ground := Ground.phase }], guard := none }) (by kernel_rfl) (by kernel_rfl) rfl rfl 36 (.tmp 3) (.tmp 106) rfl (A + 1) #[.int .i64 x, .string nm, .int .i64 30] (by kernel_rfl) (by kernel_rfl) 36 _ hM info36 rfl (three_one _ _ _) (hH.two HPN.out).1 ?_
        have hH2 := (hH.two HPN.out (x := x) (y := nm) (z := 30)).1
        have KF : Kp (Blk (w10.setRow (A + 1) #[.int .i64 x, .string nm, .int .i64 30]) A (rObj r0) ∧ Blk (w10.setRow (A + 1) #[.int .i64 x, .string nm, .int .i64 30]) (A + 1) (.cells #[.int .i64 x, .string nm, .int .i64 30] 36) ∧ Below w.heap.size w (w10.setRow (A + 1) #[.int .i64 x, .string nm, .int .i64 30])) := ⟨hH2.a, (hH.two HPN.out).2, hH2.hb⟩
        clear hH hH2 hM
        revert KF
        generalize w10.setRow (A + 1) #[.int .i64 x, .string nm, .int .i64 30] = w11
        intro KF
        refine wpAnyH_done (by kernel_rfl) ?_ _
        go_wp2_with fail
        try rw [Exit.noGoto_ret]
        exact bodyPost_ret (v := .tuple #[.agg (rc r0).toArray, .agg #[.int .i64 x, .string nm, .int .i64 30]]) (ret7 (by kernel_rfl) (by kernel_rfl) KF.out.1 KF.out.2.1) rfl (HP.out w11 KF.out.2.2)
theorem parse_any (s : ByteArray) (w : World) (hm : s.size ≤ maxLen) (hk : Kon w) : Calls Tryd.prog 7 #[.string s] w (PPost s w) := by
  by_cases hs : s.size ≤ 4096
  · exact parse_short s w hs hk
  · exact parse_long s w (by omega) hm
end Go.Proofs.YtcppmkblllappaaDoor
