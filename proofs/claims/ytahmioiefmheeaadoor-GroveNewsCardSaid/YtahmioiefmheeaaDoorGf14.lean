/-
  ladder.Show.
  The document's Show.
-/
import Derived.Test.YtahmioiefmheeaaDoorGf13
namespace Go.Proofs.YtahmioiefmheeaaDoor
open Go.RowKit

theorem HoldsS.none (w : World) : HoldsS w (.slice none 0 0) 0 [] := ⟨Option.none, 0, rfl, rfl, by unfold maxLen; omega, Bytes.nil, fun h => by omega⟩
theorem HoldsS.row {w : World} {C n : Nat} {t : TypeId} {l : List Int} (h : Row w C t .u8 l) (hl : l.length = n * 16) (hb : Bytes l) (hn : n ≤ 65535) : HoldsS w (.slice (some ⟨C, 0, Option.none⟩) n n) n l :=
  ⟨_, _, rfl, hl, by unfold maxLen; omega, hb, fun _ => ⟨C, 0, rfl, h.lt, fun j hj => by rw [Nat.zero_add]; exact h.cell (by omega)⟩⟩
/-- What a slice shows was made between two worlds. -/
def FreshS (w w' : World) (v : Value) : Prop := ∀ x n c, v = .slice (some x) n c → w.heap.size ≤ x.block ∧ x.block < w'.heap.size
theorem FreshS.none (w w' : World) : FreshS w w' (.slice Option.none 0 0) := fun x n c e => by cases e
theorem FreshS.some {w w' : World} {C o n c : Nat} (h1 : w.heap.size ≤ C) (h2 : C < w'.heap.size) : FreshS w w' (.slice (Option.some ⟨C, o, Option.none⟩) n c) := fun x n' c' e => by
  simp only [Value.slice.injEq, Option.some.injEq] at e
  rw [← e.1]
  exact ⟨h1, h2⟩
/-- Rows of sums, to be read; all of it lies below M. -/
def TreeB (w : World) (M : Nat) (v : Value) (ps : List (List Int)) : Prop :=
  ∃ R c, v = .slice (some ⟨R, 0, none⟩) ps.length c ∧ R < M ∧ R < w.heap.size ∧ ∀ i, i < ps.length → ∃ B c', w.cell? ⟨R, i, none⟩ = some (.slice (some ⟨B, 0, none⟩) ((ps.getD i []).length / 16) c') ∧ Row w B 33 .u8 (ps.getD i []) ∧ B < M
theorem TreeAt.b {w : World} {v : Value} {ps : List (List Int)} (h : TreeAt w v ps) : TreeB w w.heap.size v ps := by
  obtain ⟨R, c, e, hR, h3⟩ := h
  refine ⟨R, c, e, hR, hR, fun i hi => ?_⟩
  obtain ⟨B, c', e1, hr⟩ := h3 i hi
  exact ⟨B, c', e1, hr, hr.lt⟩
theorem TreeB.upto {w w' : World} {M : Nat} {v : Value} {ps : List (List Int)} (h : TreeB w M v ps) (hb : Below M w w') : TreeB w' M v ps := by
  obtain ⟨R, c, e, hR, hR2, h3⟩ := h
  refine ⟨R, c, e, hR, Nat.lt_of_lt_of_le hR2 hb.size, fun i hi => ?_⟩
  obtain ⟨B, c', e1, hr, hB⟩ := h3 i hi
  exact ⟨B, c', (World.cell?_of_block (w := w) (a := ⟨R, i, none⟩) (hb.block R hR)).trans e1, (hb.block B hB).trans hr, hB⟩
theorem TreeB.drew {w : World} {M : Nat} {v : Value} {ps : List (List Int)} (h : TreeB w M v ps) : TreeB w.drew M v ps := h
theorem TreeB.mono {w : World} {M M' : Nat} {v : Value} {ps : List (List Int)} (h : TreeB w M v ps) (hM : M ≤ M') : TreeB w M' v ps := by
  obtain ⟨R, c, e, hR, hR2, h3⟩ := h
  refine ⟨R, c, e, by omega, hR2, fun i hi => ?_⟩
  obtain ⟨B, c', e1, hr, hB⟩ := h3 i hi
  exact ⟨B, c', e1, hr, by omega⟩
/-- The place beside. -/
def besI (j l : Nat) : Nat := if j / 2 ^ l % 2 = 1 then j / 2 ^ l - 1 else j / 2 ^ l + 1
theorem xor_bits (j l : Nat) (hj : j < 8) (hl : l < 3) : bits .xor .i64 ((j : Int) / 2 ^ l) 1 = (besI j l : Nat) := by
  have h1 : j = 0 ∨ j = 1 ∨ j = 2 ∨ j = 3 ∨ j = 4 ∨ j = 5 ∨ j = 6 ∨ j = 7 := by omega
  have h2 : l = 0 ∨ l = 1 ∨ l = 2 := by omega
  rcases h1 with rfl | rfl | rfl | rfl | rfl | rfl | rfl | rfl <;> rcases h2 with rfl | rfl | rfl <;> first | rfl | decide
theorem besI_lt {j l k : Nat} (hj : j < 2 ^ k) (hl : l < k) : besI j l < 2 ^ (k - l) := by
  have h2 : 2 ^ k = 2 ^ (k - l) * 2 ^ l := by rw [← Nat.pow_add, Nat.sub_add_cancel (by omega)]
  have h1 : j / 2 ^ l < 2 ^ (k - l) := by rw [Nat.div_lt_iff_lt_mul (Nat.pow_pos (by decide)), ← h2]; exact hj
  have h3 : 2 ^ (k - l) = 2 * 2 ^ (k - l - 1) := by
    obtain ⟨q, hq⟩ : ∃ q, k - l = q + 1 := ⟨k - l - 1, by omega⟩
    rw [hq, Nat.add_sub_cancel, Nat.pow_succ, Nat.mul_comm]
  unfold besI
  generalize j / 2 ^ l = a at *
  generalize 2 ^ (k - l - 1) = b at *
  generalize 2 ^ (k - l) = c at *
  clear h2
  split <;> omega
theorem idx137 (R n cap j : Nat) (hj : j < n) (w : World) : (Instr.indexAt 137 (.slice (some ⟨R, 0, none⟩) n cap) (.int .i64 j)).run Tryd.prog w = .ok (.pointer (some ⟨R, j, none⟩)) w := by
  go_simp
theorem exec_idx137 {o : Oper} {a : Act} {w : World} {x y : Operand} {R n cap j : Nat} {q : Int} (ho : o.op = .indexAddr 137 x y) (hx : a.eval x = .slice (some ⟨R, 0, none⟩) n cap) (hy : a.eval y = .int .i64 q) (hq : q = (j : Nat)) (hj : j < n) :
    (execOp a.eval o).run Tryd.prog w = .ok (.value (.pointer (some ⟨R, j, none⟩))) w := by
  unfold execOp
  subst hq
  simp only [ho, hx, hy, Sem.run_bind, idx137 R n cap j hj w, Result.andThen_ok, Sem.run_pure]
/-- The way from a node: what stands beside, level by level. -/
def wayL (d e s r : Int) (x : List Int) (k j : Nat) : List Int := rowsL (fun l => nodeS d e s r x l (besI j l : Nat)) k
theorem wayL_len (d e s r : Int) (x : List Int) (k j : Nat) : (wayL d e s r x k j).length = k * 16 := rowsL_len (fun _ => nodeS_len _ _ _ _ _ _ _) _
theorem wayL_bytes (d e s r : Int) (x : List Int) (k j : Nat) : Bytes (wayL d e s r x k j) := rowsL_bytes (fun _ => nodeS_bytes _ _ _ _ _ _ _) _
/-- What comes of Show. -/
def showOk (r m i : Int) : Bool := rungB r && nodeB i m
def showS (d e s r : Int) (x : List Int) (m i : Int) : List Int := if showOk r m i then nodeS d e s r x 0 i else fill 16 []
def showF (r m i : Int) : Int := if showOk r m i then 0 else 1
def showN (r m i : Int) : Nat := if showOk r m i then (lev m).toNat else 0
def showW (d e s r : Int) (x : List Int) (m i : Int) : List Int := if showOk r m i then wayL d e s r x (lev m).toNat i.toNat else []
theorem showS_len (d e s r : Int) (x : List Int) (m i : Int) : (showS d e s r x m i).length = 16 := by
  unfold showS
  split
  · exact nodeS_len _ _ _ _ _ _ _
  · rfl
theorem showS_bytes (d e s r : Int) (x : List Int) (m i : Int) : Bytes (showS d e s r x m i) := by
  unfold showS
  split
  · exact nodeS_bytes _ _ _ _ _ _ _
  · exact fill_bytes (fun x hx => by simp at hx)
theorem results_row_tmp2 {P : Program} {fn : Func} {p q r : Tmp} {ty : TypeId} (h : fn.results = #[.cell p ty, .tmp q, .tmp r]) (tmps : Array Value) (w : World) (g : Nat) (t : TypeId) (cs : Array Value) (fr : Nat × Nat) (d : TypeDesc) (u v : Value)
    (hp : tmps.getD p undef = .pointer (some ⟨g, 0, none⟩)) (hq : tmps.getD q undef = u) (hr : tmps.getD r undef = v) (hg : w.heap[g]? = some (.cells cs t fr))
    (hu : P.underlying ty = some d) (hd : (match d with | .struct _ | .array _ _ => true | _ => false) = true) (hi : (P.info? ty).map (·.size) = some cs.size) :
    (results fn tmps).run P w = .ok (.tuple #[.agg cs, u, v]) w := by
  have hp' : tmps[p]?.getD undef = .pointer (some ⟨g, 0, none⟩) := by simpa using hp
  have hq' : tmps[q]?.getD undef = u := by simpa using hq
  have hr' : tmps[r]?.getD undef = v := by simpa using hr
  simp [results, h, hp', hq', hr', asAddr, run_loadVar_row w g t ty cs fr d hg hu hd hi]
theorem results_show {w : World} {g : Nat} {z : List Int} {q : Int} {v : Value} {tmps : Array Value} (h8 : tmps.getD 10 undef = .pointer (some ⟨g, 0, none⟩)) (h9 : tmps.getD 11 undef = v) (h10 : tmps.getD 12 undef = .int .i64 q) (hr : Row w g 33 .u8 z) (hz : z.length = 16) :
    (results Tryd.f44 tmps).run Tryd.prog w = .ok (.tuple #[dgV z, v, .int .i64 q]) w :=
  results_row_tmp2 rfl _ _ g 33 _ (0, 0) _ _ _ h8 h9 h10 hr Tryd.underlying33 rfl (cells50 hz)
set_option maxRecDepth 100000 in
set_option maxHeartbeats 2000000 in
theorem show_any (d e s r : Int) (x : List Int) (m i : Int) (w : World) (hk : KonIs w) (he : 0 ≤ e ∧ e < 4294967296) (hs : 0 ≤ s ∧ s < 4294967296) (hx : x.length = 16) (hxb : Bytes x) :
    Calls Tryd.prog 44 #[plV d e s, .int .i64 r, dgV x, .int .i64 m, .int .i64 i] w fun q w' => ∃ v, q = .returned (.tuple #[dgV (showS d e s r x m i), v, .int .i64 (showF r m i)]) ∧ HoldsS w' v (showN r m i) (showW d e s r x m i) ∧ FreshS w w' v ∧ Below w.heap.size w w' := by
  have HK := Kp.mk hk
  have HE := Kp.mk he
  have HS := Kp.mk hs
  have HX := Kp.mk hx
  have HXB := Kp.mk hxb
  have HC := Kp.mk (cells50 hx)
  clear hk he hs hx hxb
  obtain ⟨A, hA⟩ : ∃ A, A = w.heap.size := ⟨_, rfl⟩
  have HA := Kp.mk hA
  go_enter Tryd.func44, Tryd.ntmps44
  go_wp2_with fail
  rw [← hA]
  refine calls_world (fun W => Blk W A (.cells #[.int .i64 d, .int .u32 e, .int .u32 s] 51) ∧ Row W (A + 1) 33 .u8 x ∧ Row W (A + 1 + 1) 33 .u8 (fill 16 []) ∧ Below A w W) ⟨Blk.old (Blk.old (Blk.newAt _ hA) _) _, Blk.old (Blk.newAt _ (by simp [hA])) _, Blk.newAt _ (by rw [hA]; simp), by rw [hA]; exact more (more (more (Below.refl _ _) _) _) _⟩ ?_
  clear hA
  rintro W ⟨g1, g2, g3, g4⟩
  have G1 := Kp.mk g1
  have G2 := Kp.mk g2
  have G3 := Kp.mk g3
  have G4 := Kp.mk g4
  clear g1 g2 g3 g4
  have HZ0 : Kp ((fill 16 [] : List Int).length = 16) := ⟨rfl⟩
  have HF0 := Kp.mk (G3.out.setRow (fill 16 []))
  have HB0 := Kp.mk (Below.row G4.out (g := A + 1 + 1) (by omega) (kv .u8 (fill 16 [])).toArray)
  refine (isRung_any r W).mono ?_
  rintro q w1 ⟨rfl, e1⟩
  rw [e1]
  clear e1 w1
  cases hr : rungB r with
  | false =>
    have HU : Kp (showS d e s r x m i = fill 16 [] ∧ showF r m i = 1 ∧ showN r m i = 0 ∧ showW d e s r x m i = []) := ⟨by simp [showS, showF, showN, showW, showOk, hr]⟩
    clear hr
    go_wp2_with (refine wpList_store_row rfl 33 (.tmp 10) (.tmp 25) rfl (A + 1 + 1) (kv .u8 (fill 16 [])).toArray rfl rfl 33 _ G3.out (cells50 HZ0.out) (size50 HZ0.out) (kv_all _ _) ?_)
    refine bodyPost_ret (results_show (v := .slice none 0 0) rfl rfl rfl HF0.out HZ0.out) rfl ⟨_, by rw [HU.out.1, HU.out.2.1], ?_, FreshS.none _ _, by rw [← HA.out]; exact HB0.out⟩
    rw [HU.out.2.2.1, HU.out.2.2.2]
    exact HoldsS.none _
  | true =>
    go_wp2_with fail
    refine (isNode_any i m W).mono ?_
    rintro q w1 ⟨rfl, e1⟩
    rw [e1]
    clear e1 w1
    cases hn : nodeB i m with
    | false =>
      have HU : Kp (showS d e s r x m i = fill 16 [] ∧ showF r m i = 1 ∧ showN r m i = 0 ∧ showW d e s r x m i = []) := ⟨by simp [showS, showF, showN, showW, showOk, hr, hn]⟩
      clear hr hn
      go_wp2_with (refine wpList_store_row rfl 33 (.tmp 10) (.tmp 25) rfl (A + 1 + 1) (kv .u8 (fill 16 [])).toArray rfl rfl 33 _ G3.out (cells50 HZ0.out) (size50 HZ0.out) (kv_all _ _) ?_)
      refine bodyPost_ret (results_show (v := .slice none 0 0) rfl rfl rfl HF0.out HZ0.out) rfl ⟨_, by rw [HU.out.1, HU.out.2.1], ?_, FreshS.none _ _, by rw [← HA.out]; exact HB0.out⟩
      rw [HU.out.2.2.1, HU.out.2.2.2]
      exact HoldsS.none _
    | true =>
      have h3 : 0 ≤ lev m ∧ 0 ≤ i ∧ i < m := by
        have := hn
        simp [nodeB] at this
        exact ⟨this.1.1, this.1.2, this.2⟩
      obtain ⟨k, hk⟩ : ∃ k : Nat, lev m = k := ⟨(lev m).toNat, by omega⟩
      obtain ⟨j, rfl⟩ : ∃ j : Nat, i = j := ⟨i.toNat, by omega⟩
      have hm := lev_inv hk
      have hk3 := hm.2
      have hj : j < 2 ^ k := by omega
      have HJ := Kp.mk hj
      have hj8 : j < 8 := by rcases (show k = 0 ∨ k = 1 ∨ k = 2 ∨ k = 3 by omega) with rfl | rfl | rfl | rfl <;> simp at hj <;> omega
      have HU : Kp (showS d e s r x m j = nodeS d e s r x 0 j ∧ showF r m j = 0 ∧ showN r m j = k ∧ showW d e s r x m j = wayL d e s r x k j) := ⟨by
        have h2 : (lev m).toNat = k := by omega
        simp [showS, showF, showN, showW, showOk, hr, hn, h2]⟩
      have HL := Kp.mk hk
      have HT : Kp (∀ w1, Below A w w1 → Calls Tryd.prog 100 #[plV d e s, .int .i64 r, dgV x, .int .i64 m] w1 fun q w' => ∃ v, q = .returned v ∧ TreeAt w' v (lvls d e s r x k (k + 1)) ∧ Below w1.heap.size w1 w') := ⟨fun w1 hb => by
        rw [hm.1]
        exact tree_any d e s r x k (2 ^ k) w1 (HK.out.keep (by rw [← HA.out]; exact hb)) HE.out HS.out HX.out HXB.out hk3 rfl⟩
      clear hr hn h3 hk hm hj HF0 HB0
      go_wp2_with first
        | (refine wpList_load_row rfl 51 (.tmp 5) rfl A rfl 51 _ (0, 0) _ G1.out Tryd.underlying51 rfl (cells51 d e s) ?_)
        | (refine wpList_load_row rfl 33 (.tmp 7) rfl (A + 1) rfl 33 _ (0, 0) _ G2.out Tryd.underlying33 rfl HC.out ?_)
      refine (HT.out W G4.out).mono ?_
      rintro q w1 ⟨v, rfl, h1, h2⟩
      have F1 := Kp.mk h1.b
      have F3 := Kp.mk (G3.out.keep h2)
      have F4 : Kp (Below A w w1) := ⟨G4.out.trans (h2.mono (by have := G3.out.lt; omega))⟩
      clear h1 h2 HT G1 G2 G3 G4
      go_wp2_with fail
      refine (levels_any m w1).mono ?_
      rintro q w2 ⟨rfl, e1⟩
      rw [e1, HL.out]
      clear e1 w2
      have hmk := make66 k (by omega)
      go_wp2_with fail
      clear hmk
      obtain ⟨C, hC⟩ : ∃ C, C = w1.heap.size := ⟨_, rfl⟩
      refine calls_world (fun W => TreeB W C v (lvls d e s r x k (k + 1)) ∧ Row W (A + 1 + 1) 33 .u8 (fill 16 []) ∧ Row W C 33 .u8 (List.replicate (k * 16) 0) ∧ Below A w W) ⟨?_, Row.alloc F3.out _, ?_, F4.out.alloc (by have := F3.out.lt; omega) _⟩ ?_
      · rw [hC]; exact F1.out.upto (more (Below.refl _ _) _)
      · have h := Blk.newAt (w := w1) (b := C) (.cells (kv .u8 (List.replicate (k * 16) 0)).toArray 33) hC
        simpa [Row] using h
      have HCA : Kp (A + 1 + 1 < C) := ⟨by rw [hC]; exact F3.out.lt⟩
      rw [← hC]
      clear hC F1 F3 F4
      rintro W2 ⟨g1, g3, g5, g4⟩
      have G1 := Kp.mk g1
      have G3 := Kp.mk g3
      have G4 := Kp.mk g4
      have G5 := Kp.mk g5
      clear g1 g3 g4 g5
      refine (levels_any m W2).mono ?_
      rintro q w2 ⟨rfl, e1⟩
      rw [e1, HL.out]
      clear e1 w2
      obtain ⟨q, hq⟩ : ∃ q, q = wayL d e s r x k j := ⟨_, rfl⟩
      have HQ : Kp (q.length = k * 16 ∧ ∀ l, l < k → (q.drop (l * 16)).take 16 = nodeS d e s r x l (besI j l : Nat)) := ⟨by rw [hq]; exact ⟨wayL_len _ _ _ _ _ _ _, fun l hl => rowsL_mid (f := fun l => nodeS d e s r x l (besI j l : Nat)) (fun _ => nodeS_len _ _ _ _ _ _ _) _ l hl⟩⟩
      have HQ9 := Kp.mk hq
      clear hq
      obtain ⟨R, cv, rfl⟩ : ∃ R cv, v = .slice (some ⟨R, 0, none⟩) (k + 1) cv := by
        obtain ⟨R, cv, e, _⟩ := G1.out
        exact ⟨R, cv, by rw [e, lvls_len]⟩
      have HTG : Kp (∀ W', TreeB W' C (.slice (some ⟨R, 0, none⟩) (k + 1) cv) (lvls d e s r x k (k + 1)) → ∀ l, l < k + 1 → ∃ B c, (W'.cell? ⟨R, l, none⟩ = some (.slice (some ⟨B, 0, none⟩) (2 ^ (k - l)) c) ∧ R < W'.heap.size) ∧ Row W' B 33 .u8 (lvlN d e s r x k l)) := ⟨fun W' h l hl => by
        obtain ⟨R', c', e, _, hR, h3⟩ := h
        simp only [Value.slice.injEq, Option.some.injEq, Addr.mk.injEq, and_true] at e
        obtain ⟨rfl, -⟩ := e
        obtain ⟨B, c, h4, h5, _⟩ := h3 l (by rw [lvls_len]; exact hl)
        rw [lvls_get _ _ _ _ _ _ _ _ hl] at h4 h5
        rw [lvlN_len, Nat.mul_div_cancel _ (by decide)] at h4
        exact ⟨B, c, ⟨h4, hR⟩, h5⟩⟩
      go_wp2_with fail
      go_loopw [36] (fun c wr => ∃ l : Nat, l ≤ k ∧ c = .int .i64 l ∧ TreeB wr C (.slice (some ⟨R, 0, none⟩) (k + 1) cv) (lvls d e s r x k (k + 1)) ∧ Row wr (A + 1 + 1) 33 .u8 (fill 16 []) ∧ Row wr C 33 .u8 (sumsRow q k l) ∧ Below A w wr) (fun c _ => k - (intOf c).toNat)
      case atStart => exact ⟨0, by omega, rfl, G1.out, G3.out, G5.out.as sumsRow_none.symm, G4.out⟩
      case round =>
        obtain ⟨l, hl, rfl, g1, g3, g5, g4⟩ := hrel
        clear G1 G3 G4 G5
        have G1 := Kp.mk g1
        have G3 := Kp.mk g3
        have G4 := Kp.mk g4
        have G5 := Kp.mk g5
        clear g1 g3 g4 g5
        by_cases hlt : l < k
        · obtain ⟨B, c, hD0, hD1⟩ := HTG.out wr G1.out l (by omega)
          obtain ⟨z, hz⟩ : ∃ z, z = nodeS d e s r x l (besI j l : Nat) := ⟨_, rfl⟩
          obtain ⟨n, hn⟩ : ∃ n, n = 2 ^ (k - l) := ⟨_, rfl⟩
          have hlt3 := besI_lt HJ.out hlt
          obtain ⟨p, hp⟩ : ∃ p, p = lvlN d e s r x k l := ⟨_, rfl⟩
          have HZ : Kp (z.length = 16 ∧ (p.drop (besI j l * 16)).take 16 = z ∧ (q.drop (l * 16)).take 16 = z) := ⟨by rw [hz, hp]; exact ⟨nodeS_len _ _ _ _ _ _ _, lvlN_seg _ _ _ _ _ _ _ _ hlt3, HQ.out.2 l hlt⟩⟩
          have HM : Kp (besI j l * 16 + 16 ≤ p.length) := ⟨by rw [hp, lvlN_len]; omega⟩
          rw [← hn] at hD0 hlt3
          rw [← hp] at hD1
          have HN := Kp.mk hlt3
          have D0 := Kp.mk hD0
          have D1 := Kp.mk hD1
          clear hD0 hD1 hz hn hp hlt3
          go_wp2_with fail
          refine wp_region_pred (fun w' => (w'.cell? ⟨R, l, none⟩ = some (.slice (some ⟨B, 0, none⟩) n c) ∧ R < w'.heap.size) ∧ Row w' B 33 .u8 p ∧ Row w' C 33 .u8 (sumsRow q k l) ∧ TreeB w' C (.slice (some ⟨R, 0, none⟩) (k + 1) cv) (lvls d e s r x k (k + 1)) ∧ Row w' (A + 1 + 1) 33 .u8 (fill 16 []) ∧ Below A w w') [0, 1, 2, 3, 4, 5, 6, 7, 8, 9, 10, 11, 12] [13]
            (fun ι w' v => match ι with
              | 0 => v = .slice (some ⟨C, 0, none⟩) k k
              | 1 | 3 | 7 => v = .int .i64 l
              | 2 => v = .slice (some ⟨R, 0, none⟩) (k + 1) cv
              | 4 => v = .pointer (some ⟨R, l, none⟩)
              | 5 => v = .slice (some ⟨B, 0, none⟩) n c
              | 6 => v = .int .i64 j
              | 8 => v = .int .i64 (j / 2 ^ l : Nat)
              | 9 => v = .int .i64 (besI j l : Nat)
              | 10 => v = .pointer (some ⟨B, besI j l * 16, none⟩)
              | 11 => v = dgV z
              | 12 => v = .pointer (some ⟨C, l * 16, none⟩)
              | _ => v = .bool true)
            [[], [], [], [], [(2, some 41), (3, some 42)], [(4, some 43)], [], [], [(6, some 45), (7, some 46)], [(8, some 47)], [(5, some 44), (9, some 48)], [(10, some 49)], [(0, some 39), (1, some 40), (2, some 41), (3, some 42), (4, some 43), (5, some 44), (6, some 45), (7, some 46), (8, some 47), (9, some 48), (10, some 49), (11, some 50)]]
            [(0, some 39), (1, some 40), (2, some 41), (3, some 42), (4, some 43), (5, some 44), (6, some 45), (7, some 46), (8, some 47), (9, some 48), (10, some 49), (11, some 50), (12, some 51)]
            (by kernel_rfl) (by kernel_rfl) (by kernel_rfl) (by kernel_rfl) (by kernel_rfl) (by kernel_rfl) (by decide) (by decide) (fun w1 w2 h hb => ⟨⟨(hb.cell (p := ⟨R, l, none⟩) h.1.2).trans h.1.1, Nat.lt_of_lt_of_le h.1.2 hb.size⟩, h.2.1.keep hb, h.2.2.1.keep hb, h.2.2.2.1.upto (hb.mono (Nat.le_of_lt h.2.2.1.lt)), h.2.2.2.2.1.keep hb, h.2.2.2.2.2.trans (hb.mono (by have := h.2.2.2.2.1.lt; omega))⟩) ?_ ⟨D0.out, D1.out.drew, G5.out.drew, G1.out.drew, G3.out.drew, G4.out.drew⟩ ?_ ?_
          · intro ι w1 w2 v h hb
            match ι, h with
            | 0, h => exact h
            | 1, h => exact h
            | 2, h => exact h
            | 3, h => exact h
            | 4, h => exact h
            | 5, h => exact h
            | 6, h => exact h
            | 7, h => exact h
            | 8, h => exact h
            | 9, h => exact h
            | 10, h => exact h
            | 11, h => exact h
            | 12, h => exact h
            | _ + 13, h => exact h
          · refine ⟨fun γ wx hS h => ?_, fun γ wx hS h => ?_, fun γ wx hS h => ?_, fun γ wx hS h => ?_, fun γ wx hS h => ?_, fun γ wx hS h => ?_, fun γ wx hS h => ?_, fun γ wx hS h => ?_, fun γ wx hS h => ?_, fun γ wx hS h => ?_, fun γ wx hS h => ?_, fun γ wx hS h => ?_, fun γ wx hS h => ?_, trivial⟩
            · refine ⟨_, rfl, Or.inl ⟨rfl, predRun_value (v := .slice (some ⟨C, 0, none⟩) k k) (by simp only [putE]; first | rfl | (go_simp; done) | (go_simp; with_reducible rfl) | (go_simp; rfl)) rfl⟩⟩
            · refine ⟨_, rfl, Or.inl ⟨rfl, predRun_value (v := .int .i64 l) (by simp only [putE]; first | rfl | (go_simp; done) | (go_simp; with_reducible rfl) | (go_simp; rfl)) rfl⟩⟩
            · refine ⟨_, rfl, Or.inl ⟨rfl, predRun_value (v := .slice (some ⟨R, 0, none⟩) (k + 1) cv) (by simp only [putE]; first | rfl | (go_simp; done) | (go_simp; with_reducible rfl) | (go_simp; rfl)) rfl⟩⟩
            · refine ⟨_, rfl, Or.inl ⟨rfl, predRun_value (v := .int .i64 l) (by simp only [putE]; first | rfl | (go_simp; done) | (go_simp; with_reducible rfl) | (go_simp; rfl)) rfl⟩⟩
            · obtain ⟨h2, h3⟩ := h
              have e2 : γ 2 = .slice (some ⟨R, 0, none⟩) (k + 1) cv := h2
              have e3 : γ 3 = .int .i64 l := h3
              refine ⟨_, rfl, Or.inl ⟨rfl, predRun_value (exec_idx137 (x := .tmp 41) (y := .tmp 42) (R := R) (n := k + 1) (cap := cv) (j := l) rfl (by simp only [putE, e2, e3, Act.put, List.setIfInBounds_toArray, List.set_cons_zero, List.set_cons_succ]; rfl) (by simp only [putE, e2, e3, Act.put, List.setIfInBounds_toArray, List.set_cons_zero, List.set_cons_succ]; rfl) rfl (by omega)) rfl⟩⟩
            · have h4 := h
              have e4 : γ 4 = .pointer (some ⟨R, l, none⟩) := h4
              refine ⟨_, rfl, Or.inl ⟨rfl, predRun_value (v := .slice (some ⟨B, 0, none⟩) n c) (by simp only [putE, e4]; have hx := hS.1.1; go_simp) rfl⟩⟩
            · refine ⟨_, rfl, Or.inl ⟨rfl, predRun_value (v := .int .i64 j) (by simp only [putE]; first | rfl | (go_simp; done) | (go_simp; with_reducible rfl) | (go_simp; rfl)) rfl⟩⟩
            · refine ⟨_, rfl, Or.inl ⟨rfl, predRun_value (v := .int .i64 l) (by simp only [putE]; first | rfl | (go_simp; done) | (go_simp; with_reducible rfl) | (go_simp; rfl)) rfl⟩⟩
            · obtain ⟨h6, h7⟩ := h
              have e6 : γ 6 = .int .i64 j := h6
              have e7 : γ 7 = .int .i64 l := h7
              refine ⟨_, rfl, Or.inl ⟨rfl, predRun_value (v := .int .i64 (j / 2 ^ l : Nat)) (by simp only [putE, e6, e7]; first | rfl | (go_simp; done) | (go_simp; with_reducible rfl) | (go_simp; rfl)) rfl⟩⟩
            · have h8 := h
              have e8 : γ 8 = .int .i64 (j / 2 ^ l : Nat) := h8
              refine ⟨_, rfl, Or.inl ⟨rfl, predRun_value (v := .int .i64 (besI j l : Nat)) (by simp only [putE, e8]; have hx := xor_bits j l (by omega) (by omega); first | rfl | (go_simp; done) | (go_simp; with_reducible rfl) | (go_simp; rfl)) rfl⟩⟩
            · obtain ⟨h5, h9⟩ := h
              have e5 : γ 5 = .slice (some ⟨B, 0, none⟩) n c := h5
              have e9 : γ 9 = .int .i64 (besI j l : Nat) := h9
              refine ⟨_, rfl, Or.inl ⟨rfl, predRun_value (exec_idx66 (x := .tmp 44) (y := .tmp 48) (B := B) (n := n) (cap := c) (j := besI j l) rfl (by simp only [putE, e5, e9, Act.put, List.setIfInBounds_toArray, List.set_cons_zero, List.set_cons_succ]; rfl) (by simp only [putE, e5, e9, Act.put, List.setIfInBounds_toArray, List.set_cons_zero, List.set_cons_succ]; rfl) rfl HN.out) rfl⟩⟩
            · have h10 := h
              have e10 : γ 10 = .pointer (some ⟨B, besI j l * 16, none⟩) := h10
              refine ⟨_, rfl, Or.inl ⟨rfl, predRun_value (exec_load_at33 (x := .tmp 49) rfl (by simp only [putE, e10, Act.put, List.setIfInBounds_toArray, List.set_cons_zero, List.set_cons_succ]; rfl) (by have h := hS.2.1.mid (o := besI j l * 16) (n := 16) HM.out; exact HZ.out.2.1 ▸ h) HZ.out.1) rfl⟩⟩
            · obtain ⟨h0, h1, h2, h3, h4, h5, h6, h7, h8, h9, h10, h11⟩ := h
              have e0 : γ 0 = .slice (some ⟨C, 0, none⟩) k k := h0
              have e1 : γ 1 = .int .i64 l := h1
              have e2 : γ 2 = .slice (some ⟨R, 0, none⟩) (k + 1) cv := h2
              have e3 : γ 3 = .int .i64 l := h3
              have e4 : γ 4 = .pointer (some ⟨R, l, none⟩) := h4
              have e5 : γ 5 = .slice (some ⟨B, 0, none⟩) n c := h5
              have e6 : γ 6 = .int .i64 j := h6
              have e7 : γ 7 = .int .i64 l := h7
              have e8 : γ 8 = .int .i64 (j / 2 ^ l : Nat) := h8
              have e9 : γ 9 = .int .i64 (besI j l : Nat) := h9
              have e10 : γ 10 = .pointer (some ⟨B, besI j l * 16, none⟩) := h10
              have e11 : γ 11 = dgV z := h11
              refine ⟨_, rfl, Or.inl ⟨rfl, ?_⟩⟩
              simp only [putE, e0, e1, e2, e3, e4, e5, e6, e7, e8, e9, e10, e11, Act.put, List.setIfInBounds_toArray, List.set_cons_zero, List.set_cons_succ]
              refine predRun_value (v := .pointer (some ⟨C, l * 16, none⟩)) ?_ rfl
              exact exec_idx66 (x := .tmp 39) (y := .tmp 40) rfl rfl rfl rfl hlt
          · intro γ w9 hS h
            have e11 : γ 11 = dgV z := h.2.2.2.2.2.2.2.2.2.2.2.1
            have e12 : γ 12 = .pointer (some ⟨C, l * 16, none⟩) := h.2.2.2.2.2.2.2.2.2.2.2.2
            simp only [putE, Act.put, List.setIfInBounds_toArray, List.set_cons_zero, List.set_cons_succ]
            rw [e11, e12]
            have F1 := Kp.mk hS.2.2.2.1
            have F3 := Kp.mk hS.2.2.2.2.1
            have F4 := Kp.mk hS.2.2.2.2.2
            have F5 := Kp.mk hS.2.2.1
            clear h hS e11 e12 G1 G3 G4 G5 D0 D1
            refine wpOps_step rfl rfl ?_
            refine wp_store_mid 33 (.tmp 51) (.tmp 50) rfl C (l * 16) (kv .u8 z).toArray rfl rfl ?a1 ?a2 ?a3 ?_
            case a1 =>
              have h := F5.out.there (o := l * 16) (n := 16) (by rw [sumsRow_len HQ.out.1 (by omega)]; omega)
              rw [kv_size, HZ.out.1]
              exact h
            case a2 => exact cells50 HZ.out.1
            case a3 => exact kv_all _ _
            have HR3 : Kp (Row (w9.setCells C (l * 16) (kv .u8 z)) C 33 .u8 (sumsRow q k (l + 1))) := ⟨by
              have h := Row.setCells z (l * 16) w9 _ (by rw [sumsRow_len HQ.out.1 (by omega), HZ.out.1]; omega) F5.out
              have e := sumsRow_put HQ.out.1 hlt
              rw [HZ.out.2.2] at e
              rw [e] at h
              exact h⟩
            have hCA := HCA.out
            refine wpOps_done ?_
            go_wp2_with fail
            exact ⟨⟨l + 1, by omega, by go_num, F1.out.upto (Below.cells (Nat.le_refl _) _ _ _ _ (Below.refl _ _)), Row.otherCells (by omega) _ _ _ F3.out, HR3.out, Below.cells (by omega) _ _ _ _ F4.out⟩, by simp [intOf]; omega⟩
        · have hl' : l = k := by omega
          subst hl'
          obtain ⟨B, c, hD0, hD1⟩ := HTG.out wr G1.out 0 (by omega)
          have c0 : wr.cell? ⟨R, 0, none⟩ = some (.slice (some ⟨B, 0, none⟩) (2 ^ (l - 0)) c) := hD0.1
          obtain ⟨z, hz⟩ : ∃ z, z = nodeS d e s r x 0 j := ⟨_, rfl⟩
          have HZ : Kp (z.length = 16) := ⟨by rw [hz]; exact nodeS_len _ _ _ _ _ _ _⟩
          have D1 : Kp (wr.rangeAt B (j * 16) (kv .u8 z)) := ⟨by
            have h := hD1.mid (o := j * 16) (n := 16) (by rw [lvlN_len]; have := HJ.out; simp; omega)
            have e := lvlN_seg d e s r x l 0 j HJ.out
            unfold segL at e
            rw [e, ← hz] at h
            exact h⟩
          obtain ⟨n, hn⟩ : ∃ n, n = 2 ^ (l - 0) := ⟨_, rfl⟩
          have hjn : j < n := by rw [hn]; exact HJ.out
          rw [← hn] at c0
          rw [sumsRow_all HQ.out.1] at G5
          have HF := Kp.mk (G3.out.setRow z)
          have HBf := Kp.mk (Below.row G4.out (g := A + 1 + 1) (by omega) (kv .u8 z).toArray)
          have HCA' := HCA.out
          have HW := Kp.mk (Row.otherRow G5.out (g := A + 1 + 1) (by omega) (kv .u8 z).toArray)
          have HZe := Kp.mk hz
          clear hD0 hD1 hn hz HCA'
          go_wp2_with first
            | (refine wpList_load_mid rfl 33 (.tmp 57) rfl B (j * 16) rfl (kv .u8 z) _ D1.out Tryd.underlying33 rfl (by rw [info33L, List.length_map, HZ.out]) ?_)
            | (refine wpList_store_row rfl 33 (.tmp 10) (.tmp 58) rfl (A + 1 + 1) (kv .u8 z).toArray rfl rfl 33 _ G3.out (cells50 HZ.out) (size50 HZ.out) (kv_all _ _) ?_)
          refine bodyPost_ret (results_show (v := .slice (some ⟨C, 0, none⟩) l l) rfl rfl rfl HF.out HZ.out) rfl ⟨_, by rw [HU.out.1, HU.out.2.1, HZe.out], ?_, FreshS.some (by rw [← HA.out]; have := HCA.out; omega) HW.out.lt, by rw [← HA.out]; exact HBf.out⟩
          rw [HU.out.2.2.1, HU.out.2.2.2]
          exact HoldsS.row (by rw [← HQ9.out]; exact HW.out) (wayL_len _ _ _ _ _ _ _) (wayL_bytes _ _ _ _ _ _ _) (by omega)
end Go.Proofs.YtahmioiefmheeaaDoor

namespace Go.Proofs.YtahmioiefmheeaaDoor
open Go.RowKit

theorem showOk_specR {r m i : Int} : showOk r m i = true ↔ rightB r m = true ∧ 0 ≤ i ∧ i < m := by
  simp [showOk, nodeB, rightB, and_assoc]
theorem results_rshow {w : World} {g : Nat} {z : List Int} {q : Int} {v : Value} {tmps : Array Value} (h8 : tmps.getD 10 undef = .pointer (some ⟨g, 0, none⟩)) (h9 : tmps.getD 11 undef = v) (h10 : tmps.getD 12 undef = .int .i64 q) (hr : Row w g 32 .u8 z) (hz : z.length = 16) :
    (results Tryd.f45 tmps).run Tryd.prog w = .ok (.tuple #[dgV z, v, .int .i64 q]) w :=
  results_row_tmp2 rfl _ _ g 32 _ (0, 0) _ _ _ h8 h9 h10 hr Tryd.underlying32 rfl (cells49 hz)
set_option maxRecDepth 100000 in
set_option maxHeartbeats 4000000 in
theorem rshow_any (d e s r : Int) (x : List Int) (m i : Int) (w : World) (he : 0 ≤ e ∧ e < 4294967296) (hs : 0 ≤ s ∧ s < 4294967296) (hx : x.length = 16) (hxb : Bytes x) :
    Calls Tryd.prog 45 #[plV d e s, .int .i64 r, dgV x, .int .i64 m, .int .i64 i] w fun q w' => ∃ v, q = .returned (.tuple #[dgV (showS d e s r x m i), v, .int .i64 (showF r m i)]) ∧ HoldsS w' v (showN r m i) (showW d e s r x m i) ∧ FreshS w w' v ∧ Below w.heap.size w w' := by
  have HE := Kp.mk he
  have HS := Kp.mk hs
  have HX := Kp.mk hx
  have HXB := Kp.mk hxb
  clear he hs hx hxb
  obtain ⟨i0, hi0, hz0, hz1, hz2⟩ := info_parts info32s
  obtain ⟨A, hA⟩ : ∃ A, A = w.heap.size := ⟨_, rfl⟩
  have HA := Kp.mk hA
  go_enter Tryd.func45, Tryd.ntmps45
  go_wp2_with fail
  rw [← hA]
  refine calls_world (fun W => Blk W A (.cells #[.int .i64 d, .int .u32 e, .int .u32 s] 48) ∧ Row W (A + 1) 32 .u8 x ∧ Row W (A + 1 + 1) 32 .u8 (fill 16 []) ∧ Below A w W) ⟨Blk.old (Blk.old (Blk.newAt _ hA) _) _, Blk.old (Blk.newAt _ (by simp [hA])) _, Blk.newAt _ (by rw [hA]; simp), by rw [hA]; exact more (more (more (Below.refl _ _) _) _) _⟩ ?_
  clear hA
  rintro W ⟨g1, g2, g3, g4⟩
  have G1 := Kp.mk g1
  have G2 := Kp.mk g2
  have G3 := Kp.mk g3
  have G4 := Kp.mk g4
  clear g1 g2 g3 g4
  have HZ0 : Kp ((fill 16 [] : List Int).length = 16) := ⟨rfl⟩
  have HF0 := Kp.mk (G3.out.setRow (fill 16 []))
  have HB0 := Kp.mk (Below.row G4.out (g := A + 1 + 1) (by omega) (kv .u8 (fill 16 [])).toArray)
  refine (right_any r m W).mono ?_
  rintro q w1 ⟨rfl, e1⟩
  rw [e1]
  clear e1 w1
  cases hr : rightB r m with
  | false =>
    have HU : Kp (showS d e s r x m i = fill 16 [] ∧ showF r m i = 1 ∧ showN r m i = 0 ∧ showW d e s r x m i = []) := ⟨by
      have hno : showOk r m i = false := by
        cases h : showOk r m i with
        | false => rfl
        | true =>
          have := showOk_specR.1 h
          first | omega | (rw [hr] at this; exact absurd this.1 (by decide))
      simp [showS, showF, showN, showW, hno]⟩
    clear hr
    go_wp2_with (refine wpList_store_row rfl 32 (.tmp 10) (.tmp 33) rfl (A + 1 + 1) (kv .u8 (fill 16 [])).toArray rfl rfl 32 _ G3.out (cells49 HZ0.out) (size50 HZ0.out) (kv_all _ _) ?_)
    refine bodyPost_ret (results_rshow (v := .slice none 0 0) rfl rfl rfl HF0.out HZ0.out) rfl ⟨_, by rw [HU.out.1, HU.out.2.1], ?_, FreshS.none _ _, by rw [← HA.out]; exact HB0.out⟩
    rw [HU.out.2.2.1, HU.out.2.2.2]
    exact HoldsS.none _
  | true =>
    by_cases c1 : i < 0
    · have HU : Kp (showS d e s r x m i = fill 16 [] ∧ showF r m i = 1 ∧ showN r m i = 0 ∧ showW d e s r x m i = []) := ⟨by
        have hno : showOk r m i = false := by
          cases h : showOk r m i with
          | false => rfl
          | true =>
            have := showOk_specR.1 h
            first | omega | (rw [hr] at this; exact absurd this.1 (by decide))
        simp [showS, showF, showN, showW, hno]⟩
      clear hr
      go_wp2_with (refine wpList_store_row rfl 32 (.tmp 10) (.tmp 33) rfl (A + 1 + 1) (kv .u8 (fill 16 [])).toArray rfl rfl 32 _ G3.out (cells49 HZ0.out) (size50 HZ0.out) (kv_all _ _) ?_)
      refine bodyPost_ret (results_rshow (v := .slice none 0 0) rfl rfl rfl HF0.out HZ0.out) rfl ⟨_, by rw [HU.out.1, HU.out.2.1], ?_, FreshS.none _ _, by rw [← HA.out]; exact HB0.out⟩
      rw [HU.out.2.2.1, HU.out.2.2.2]
      exact HoldsS.none _
    by_cases c2 : m ≤ i
    · have HU : Kp (showS d e s r x m i = fill 16 [] ∧ showF r m i = 1 ∧ showN r m i = 0 ∧ showW d e s r x m i = []) := ⟨by
        have hno : showOk r m i = false := by
          cases h : showOk r m i with
          | false => rfl
          | true =>
            have := showOk_specR.1 h
            first | omega | (rw [hr] at this; exact absurd this.1 (by decide))
        simp [showS, showF, showN, showW, hno]⟩
      clear hr
      go_wp2_with (refine wpList_store_row rfl 32 (.tmp 10) (.tmp 33) rfl (A + 1 + 1) (kv .u8 (fill 16 [])).toArray rfl rfl 32 _ G3.out (cells49 HZ0.out) (size50 HZ0.out) (kv_all _ _) ?_)
      refine bodyPost_ret (results_rshow (v := .slice none 0 0) rfl rfl rfl HF0.out HZ0.out) rfl ⟨_, by rw [HU.out.1, HU.out.2.1], ?_, FreshS.none _ _, by rw [← HA.out]; exact HB0.out⟩
      rw [HU.out.2.2.1, HU.out.2.2.2]
      exact HoldsS.none _
    obtain ⟨j, rfl⟩ : ∃ j : Nat, i = j := ⟨i.toNat, by omega⟩
    have hok : showOk r m (j : Int) = true := showOk_specR.2 ⟨hr, by omega, by omega⟩
    obtain ⟨k, hk⟩ : ∃ k : Nat, lev m = k := ⟨(lev m).toNat, by simp [rightB] at hr; omega⟩
    have hm := lev_inv hk
    have hk3 := hm.2
    have hj : j < 2 ^ k := by omega
    have HJ := Kp.mk hj
    have hj8 : j < 8 := by rcases (show k = 0 ∨ k = 1 ∨ k = 2 ∨ k = 3 by omega) with rfl | rfl | rfl | rfl <;> simp at hj <;> omega
    have HU : Kp (showS d e s r x m j = nodeS d e s r x 0 j ∧ showF r m j = 0 ∧ showN r m j = k ∧ showW d e s r x m j = wayL d e s r x k j) := ⟨by
      have h2 : (lev m).toNat = k := by omega
      simp [showS, showF, showN, showW, hok, h2]⟩
    have HLv := Kp.mk hk
    clear hr hok hk hm hj HF0 HB0
    go_wp2_with first
      | (refine wpList_load_row rfl 48 (.tmp 5) rfl A rfl 48 _ (0, 0) _ G1.out Tryd.underlying48 rfl (cells48 d e s) ?_)
      | (refine wpList_load_row rfl 32 (.tmp 7) rfl (A + 1) rfl 32 _ (0, 0) _ G2.out Tryd.underlying32 rfl (cells49 HX.out) ?_)
    refine (node_zero d e s r x j W HE.out HS.out HX.out HXB.out).mono ?_
    rintro q w1 ⟨vt, rfl, -, hb⟩
    have F1 := Kp.mk (G1.out.keep hb)
    have F2 := Kp.mk (G2.out.keep hb)
    have F3 := Kp.mk (G3.out.keep hb)
    have F4 : Kp (Below A w w1) := ⟨G4.out.trans (hb.mono (Nat.le_of_lt G1.out.lt))⟩
    have HYl := Kp.mk (nodeS_len d e s r x 0 j)
    clear hb G1 G2 G3 G4
    obtain ⟨y, hy⟩ : ∃ y, y = nodeS d e s r x 0 j := ⟨_, rfl⟩
    rw [← hy] at HU HYl
    rw [← hy]
    clear hy
    obtain ⟨W3, hW3⟩ : ∃ W, W = (w1.alloc z49).setRow w1.heap.size (kv .u8 y).toArray := ⟨_, rfl⟩
    have hs3 := F3.out.lt
    have D1 : Kp (Blk W3 A (.cells #[.int .i64 d, .int .u32 e, .int .u32 s] 48)) := ⟨by rw [hW3]; exact (setRow_other _ w1.heap.size A _ (by omega)).trans (Blk.old F1.out _)⟩
    have D2 : Kp (Row W3 (A + 1) 32 .u8 x) := ⟨by rw [hW3]; exact Row.otherRow (Row.alloc F2.out _) (by omega) _⟩
    have D3 : Kp (Row W3 (A + 1 + 1) 32 .u8 (fill 16 [])) := ⟨by rw [hW3]; exact Row.otherRow (Row.alloc F3.out _) (by omega) _⟩
    have D4 : Kp (Below A w W3) := ⟨by rw [hW3]; exact Below.row (F4.out.alloc (by omega) _) (by omega) _⟩
    have D5 : Kp (Row W3 w1.heap.size 32 .u8 y) := ⟨by rw [hW3]; exact Row.setRow (k := .u8) (l := fill 16 []) (Blk.new w1 z49) _⟩
    obtain ⟨D, hD⟩ : ∃ D, D = w1.heap.size := ⟨_, rfl⟩
    have HDe := Kp.mk hD
    rw [← hD] at D5
    clear hs3 hD F1 F2 F3 F4
    obtain ⟨K0, hK⟩ : ∃ K, K = W3.heap.size := ⟨_, rfl⟩
    have hKA : A + 1 + 1 < K0 := by rw [hK]; exact D3.out.lt
    have hKD : D < K0 := by rw [hK]; exact D5.out.lt
    have HK0 := Kp.mk hK
    have HR0 : Kp (Below K0 W3 W3) := ⟨by rw [hK]; exact Below.refl _ _⟩
    clear hK
    obtain ⟨Wl, hWl⟩ : ∃ l, l = wayL d e s r x k j := ⟨_, rfl⟩
    have HWL : Kp (Wl.length = k * 16 ∧ Bytes Wl ∧ ∀ l, l < k → segL Wl l = nodeS d e s r x l (besI j l : Nat)) := ⟨by rw [hWl]; exact ⟨wayL_len _ _ _ _ _ _ _, wayL_bytes _ _ _ _ _ _ _, fun l hl => rowsL_mid (f := fun l => nodeS d e s r x l (besI j l : Nat)) (fun _ => nodeS_len _ _ _ _ _ _ _) k l hl⟩⟩
    rw [← hWl] at HU
    clear hWl
    go_wp2_with (refine wpList_store_row rfl 32 (.tmp 13) (.tmp 40) rfl w1.heap.size (kv .u8 y).toArray rfl rfl 32 _ (Blk.new w1 z49) (cells49 HYl.out) (size50 HYl.out) (kv_all _ _) ?_; refine wpl_world (· = W3) hW3.symm ?_; clear hW3; intro W0 e0; rw [e0]; clear e0; rw [← HDe.out]; clear HDe)
    go_loopw [4, 15, 16] (fun i4 v c wr => ∃ l q : Nat, l ≤ k ∧ c = .int .i64 l ∧ i4 = .int .i64 q ∧ Kp (q = j / 2 ^ l) ∧ Kp (wr.ownsRow K0 32 16 v l (bv (Wl.take (l * 16)))) ∧ Kp (Below K0 W3 wr)) (fun _ _ c _ => k - (intOf c).toNat)
    case atStart => exact ⟨0, j, by omega, rfl, rfl, ⟨by simp⟩, ⟨by simpa using World.ownsRow_nil _ _ _ _⟩, HR0⟩
    case round =>
      obtain ⟨l, q, hl, rfl, rfl, HQ, E5, E6⟩ := hrel
      clear HR0
      go_wp2_with fail
      refine (rlevels_any m wr).mono ?_
      rintro q1 w1 ⟨rfl, e1⟩
      rw [e1, HLv.out]
      clear e1 w1
      by_cases hlt : l < k
      · have E1 : Kp (Blk wr A (.cells #[.int .i64 d, .int .u32 e, .int .u32 s] 48)) := ⟨(E6.out.block A (by omega)).trans D1.out⟩
        have E2 : Kp (Row wr (A + 1) 32 .u8 x) := ⟨(E6.out.block (A + 1) (by omega)).trans D2.out⟩
        have hq8 : q < 8 := by rw [HQ.out]; exact Nat.lt_of_le_of_lt (Nat.div_le_self _ _) hj8
        have hlt3 := besI_lt HJ.out hlt
        obtain ⟨z, hz⟩ : ∃ z, z = nodeS d e s r x l (besI j l : Nat) := ⟨_, rfl⟩
        have HZl : Kp (z.length = 16) := ⟨by rw [hz]; exact nodeS_len _ _ _ _ _ _ _⟩
        have HTk : Kp (bv (Wl.take (l * 16)) ++ bv z = bv (Wl.take ((l + 1) * 16))) := ⟨by rw [hz, ← HWL.out.2.2 l hlt]; exact take16 _ _⟩
        have HQn : Kp (q / 2 = j / 2 ^ (l + 1)) := ⟨by rw [HQ.out, Nat.pow_succ, Nat.div_div_eq_div_mul]⟩
        obtain ⟨b, hbe⟩ : ∃ b : Int, b = (besI j l : Nat) := ⟨_, rfl⟩
        have HNx : Kp (∀ w1, Calls Tryd.prog 52 #[plV d e s, .int .i64 r, dgV x, .int .i64 l, .int .i64 b] w1 fun q w' => ∃ v', q = .returned (.tuple #[dgV z, v']) ∧ Below w1.heap.size w1 w') := ⟨fun w1 => by
          have h8 : ((b + 1) * 2 ^ l : Int) ≤ 8 := by
            have h1 : (besI j l + 1) * 2 ^ l ≤ 2 ^ (k - l) * 2 ^ l := Nat.mul_le_mul_right _ hlt3
            rw [← Nat.pow_add, Nat.sub_add_cancel (by omega)] at h1
            have h2 : 2 ^ k ≤ 8 := by rcases (show k = 0 ∨ k = 1 ∨ k = 2 ∨ k = 3 by omega) with rfl | rfl | rfl | rfl <;> decide
            have h3 : (((besI j l + 1) * 2 ^ l : Nat) : Int) ≤ 8 := by omega
            rw [hbe]
            simpa using h3
          refine (node_any d e s r x HE.out HS.out HX.out HXB.out l b w1 (by omega) (by omega) h8).mono ?_
          rintro q w' ⟨v', h1, _, h2⟩
          exact ⟨v', by rw [h1, hz, hbe], h2⟩⟩
        have HQ2 : Kp (b = if q % 2 = 1 then (q : Int) - 1 else (q : Int) + 1) := ⟨by
          rw [hbe]
          unfold besI
          rw [← HQ.out]
          split <;> omega⟩
        have hq2 : (q : Int).tdiv 2 = ((q / 2 : Nat) : Int) := by rw [Int.tdiv_eq_ediv_of_nonneg (by omega)]; omega
        clear hz hbe hlt3
        by_cases hpar : q % 2 = 1
        · have hbq : b = (q : Int) - 1 := by rw [HQ2.out, if_pos hpar]
          have ht : (q : Int).tmod 2 = 1 := by rw [Int.tmod_eq_emod_of_nonneg (by omega)]; omega
          go_wp2_with first
            | (refine wpList_load_row rfl 48 (.tmp 5) rfl A rfl 48 _ (0, 0) _ E1.out Tryd.underlying48 rfl (cells48 d e s) ?_)
            | (refine wpList_load_row rfl 32 (.tmp 7) rfl (A + 1) rfl 32 _ (0, 0) _ E2.out Tryd.underlying32 rfl (cells49 HX.out) ?_)
          rw [← hbq]
          refine (HNx.out wr).mono ?_
          rintro q1 w1 ⟨v', rfl, hb⟩
          have HROW0 : Kp (w1.ownsRow K0 32 16 u15 l (bv (Wl.take (l * 16)))) := ⟨ownsRow_below E5.out hb⟩
          have HB1 : Kp (Below K0 W3 w1) := ⟨E6.out.trans (hb.mono (by have := E6.out.size; have := HK0.out; omega))⟩
          clear hb E1 E2 E5 E6
          obtain ⟨W5, hW5⟩ : ∃ W, W = (w1.alloc z49).setRow w1.heap.size (kv .u8 z).toArray := ⟨_, rfl⟩
          have HROW : Kp (W5.ownsRow K0 32 16 u15 l (bv (Wl.take (l * 16)))) := ⟨by rw [hW5, World.setRow_alloc_new]; exact HROW0.out.alloc _⟩
          have HG : Kp (Row W5 w1.heap.size 32 .u8 z) := ⟨by rw [hW5]; exact Row.setRow (k := .u8) (l := fill 16 []) (Blk.new w1 z49) _⟩
          have HB5 : Kp (Below K0 W3 W5) := ⟨by rw [hW5]; exact Below.row (HB1.out.alloc (by have := HB1.out.size; have := HK0.out; omega) z49) (by have := HB1.out.size; have := HK0.out; omega) _⟩
          have HS5 : Kp (K0 ≤ W5.heap.size) := ⟨by have := HB5.out.size; have := HK0.out; omega⟩
          have hbs := build65 HZl.out
          clear HROW0 HB1
          generalize bv (Wl.take (l * 16)) = xs at HROW HTk
          go_wp2_with (first
            | (refine wpList_store_row rfl 32 (.tmp 18) (.tmp 62) rfl w1.heap.size (kv .u8 z).toArray rfl rfl 32 _ (Blk.new w1 z49) (cells49 HZl.out) (size50 HZl.out) (kv_all _ _) ?_; refine wpl_world (· = W5) hW5.symm ?_; clear hW5; intro W0 e0; rw [e0]; clear e0)
            | (refine wpList_load_row rfl 32 (.tmp 18) rfl w1.heap.size rfl 32 _ (0, 0) _ HG.out Tryd.underlying32 rfl (cells49 HZl.out) ?_)
            | (refine wpList_buildSlice_one rfl 65 1 (.tmp 65) rfl (dgV z) rfl _ _ (hbs _) ?_)
            | (at_builtin; refine wpList_append_own _ rfl _ _ 65 rfl K0 32 i0 _ 16 16 Tryd.underlying65 hi0 hz0 hz1 hz2 rfl (by decide) _ _ _ rfl (HROW.out.alloc _) ⟨W5.heap.size, 0, none⟩ 1 1 (bv z) rfl ?c0 (row_new _ _ _) ?c2 ?c3 ?c4 ?c5 ?_))
          case c0 => rw [bv_len, HZl.out]
          case c2 => exact bv_one _
          case c3 => unfold maxLen; omega
          case c4 => omega
          case c5 => have := HS5.out; simp; omega
          intro v2 w4 hown' hgrow _
          have HO4 : Kp (w4.ownsRow K0 32 16 v2 (l + 1) (bv (Wl.take ((l + 1) * 16)))) := ⟨by have := hown'; rw [HTk.out] at this; exact this⟩
          have HB4 : Kp (Below K0 W3 w4) := ⟨below_row_grown (HB5.out.alloc HS5.out _) (by have := HS5.out; simp; omega) (HROW.out.alloc _) hgrow⟩
          clear hown' hgrow hbs HROW HG HB5 HS5
          go_wp2_with fail
          exact ⟨⟨l + 1, q / 2, by omega, by go_num, by first | rfl | (congr 1; omega), HQn, HO4, HB4⟩, by simp [intOf]; omega⟩
        · have hbq : b = (q : Int) + 1 := by rw [HQ2.out, if_neg hpar]
          have ht : (q : Int).tmod 2 = 0 := by rw [Int.tmod_eq_emod_of_nonneg (by omega)]; omega
          go_wp2_with first
            | (refine wpList_load_row rfl 48 (.tmp 5) rfl A rfl 48 _ (0, 0) _ E1.out Tryd.underlying48 rfl (cells48 d e s) ?_)
            | (refine wpList_load_row rfl 32 (.tmp 7) rfl (A + 1) rfl 32 _ (0, 0) _ E2.out Tryd.underlying32 rfl (cells49 HX.out) ?_)
          rw [← hbq]
          refine (HNx.out wr).mono ?_
          rintro q1 w1 ⟨v', rfl, hb⟩
          have HROW0 : Kp (w1.ownsRow K0 32 16 u15 l (bv (Wl.take (l * 16)))) := ⟨ownsRow_below E5.out hb⟩
          have HB1 : Kp (Below K0 W3 w1) := ⟨E6.out.trans (hb.mono (by have := E6.out.size; have := HK0.out; omega))⟩
          clear hb E1 E2 E5 E6
          obtain ⟨W5, hW5⟩ : ∃ W, W = (w1.alloc z49).setRow w1.heap.size (kv .u8 z).toArray := ⟨_, rfl⟩
          have HROW : Kp (W5.ownsRow K0 32 16 u15 l (bv (Wl.take (l * 16)))) := ⟨by rw [hW5, World.setRow_alloc_new]; exact HROW0.out.alloc _⟩
          have HG : Kp (Row W5 w1.heap.size 32 .u8 z) := ⟨by rw [hW5]; exact Row.setRow (k := .u8) (l := fill 16 []) (Blk.new w1 z49) _⟩
          have HB5 : Kp (Below K0 W3 W5) := ⟨by rw [hW5]; exact Below.row (HB1.out.alloc (by have := HB1.out.size; have := HK0.out; omega) z49) (by have := HB1.out.size; have := HK0.out; omega) _⟩
          have HS5 : Kp (K0 ≤ W5.heap.size) := ⟨by have := HB5.out.size; have := HK0.out; omega⟩
          have hbs := build65 HZl.out
          clear HROW0 HB1
          generalize bv (Wl.take (l * 16)) = xs at HROW HTk
          go_wp2_with (first
            | (refine wpList_store_row rfl 32 (.tmp 18) (.tmp 62) rfl w1.heap.size (kv .u8 z).toArray rfl rfl 32 _ (Blk.new w1 z49) (cells49 HZl.out) (size50 HZl.out) (kv_all _ _) ?_; refine wpl_world (· = W5) hW5.symm ?_; clear hW5; intro W0 e0; rw [e0]; clear e0)
            | (refine wpList_load_row rfl 32 (.tmp 18) rfl w1.heap.size rfl 32 _ (0, 0) _ HG.out Tryd.underlying32 rfl (cells49 HZl.out) ?_)
            | (refine wpList_buildSlice_one rfl 65 1 (.tmp 65) rfl (dgV z) rfl _ _ (hbs _) ?_)
            | (at_builtin; refine wpList_append_own _ rfl _ _ 65 rfl K0 32 i0 _ 16 16 Tryd.underlying65 hi0 hz0 hz1 hz2 rfl (by decide) _ _ _ rfl (HROW.out.alloc _) ⟨W5.heap.size, 0, none⟩ 1 1 (bv z) rfl ?c0 (row_new _ _ _) ?c2 ?c3 ?c4 ?c5 ?_))
          case c0 => rw [bv_len, HZl.out]
          case c2 => exact bv_one _
          case c3 => unfold maxLen; omega
          case c4 => omega
          case c5 => have := HS5.out; simp; omega
          intro v2 w4 hown' hgrow _
          have HO4 : Kp (w4.ownsRow K0 32 16 v2 (l + 1) (bv (Wl.take ((l + 1) * 16)))) := ⟨by have := hown'; rw [HTk.out] at this; exact this⟩
          have HB4 : Kp (Below K0 W3 w4) := ⟨below_row_grown (HB5.out.alloc HS5.out _) (by have := HS5.out; simp; omega) (HROW.out.alloc _) hgrow⟩
          clear hown' hgrow hbs HROW HG HB5 HS5
          go_wp2_with fail
          exact ⟨⟨l + 1, q / 2, by omega, by go_num, by first | rfl | (congr 1; omega), HQn, HO4, HB4⟩, by simp [intOf]; omega⟩
      · have hl' : l = k := by omega
        subst hl'
        have E3 : Kp (Row wr (A + 1 + 1) 32 .u8 (fill 16 [])) := ⟨(E6.out.block (A + 1 + 1) (by omega)).trans D3.out⟩
        have E7 : Kp (Row wr D 32 .u8 y) := ⟨(E6.out.block D (by omega)).trans D5.out⟩
        have E8 : Kp (Below A w wr) := ⟨D4.out.trans (E6.out.mono (by omega))⟩
        have HF := Kp.mk (E3.out.setRow y)
        have HBf := Kp.mk (Below.row E8.out (g := A + 1 + 1) (by omega) (kv .u8 y).toArray)
        have HOW : Kp ((wr.setRow (A + 1 + 1) (kv .u8 y).toArray).ownsRow K0 32 16 u15 l (bv Wl)) := ⟨by
          have h := E5.out
          rw [List.take_of_length_le (by have := HWL.out.1; omega)] at h
          refine h.kept (row := some (A + 1 + 1)) ⟨rfl, rfl, rfl, by simp [World.setRow], fun k' hk' hne => setRow_ne _ (fun e => hne (by rw [e]))⟩ ?_
          cases hv : u15.ownBlock with
          | none => exact .inl rfl
          | some g =>
            refine .inr fun e => ?_
            have := (h.lt g hv).1
            have e2 : A + 1 + 1 = g := by have h9 := e; simp at h9; omega
            omega⟩
        go_wp2_with first
          | (refine wpList_load_row rfl 32 (.tmp 13) rfl D rfl 32 _ (0, 0) _ E7.out Tryd.underlying32 rfl (cells49 HYl.out) ?_)
          | (refine wpList_store_row rfl 32 (.tmp 10) (.tmp 70) rfl (A + 1 + 1) (kv .u8 y).toArray rfl rfl 32 _ E3.out (cells49 HYl.out) (size50 HYl.out) (kv_all _ _) ?_)
        refine bodyPost_ret (results_rshow (v := u15) rfl rfl rfl HF.out HYl.out) rfl ⟨_, by rw [HU.out.1, HU.out.2.1], ?_, ?_, by rw [← HA.out]; exact HBf.out⟩
        · rw [HU.out.2.2.1, HU.out.2.2.2]
          exact HoldsS.ofRow HWL.out.2.1 (by unfold maxLen; omega) HWL.out.1 HOW.out
        · intro a n c ev
          have h := HOW.out.lt a.block (by rw [ev]; rfl)
          exact ⟨by rw [← HA.out]; omega, h.2⟩
end Go.Proofs.YtahmioiefmheeaaDoor
