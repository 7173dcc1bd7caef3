/-
  ladder.tree at every width: rows of sums in a row of the call's own.
  ladder.next, Up at width one.
  ladder.Up at width one.
  ladder.next, ladder.Up, at every width.
  As FlowP, where some pure operations (ps) are not waited for by the end: they may come up behind it; they are taken as soon as they are ready.
-/
import Derived.Test.YtahmioiefmheeaaDoorLk10
namespace Go.Proofs.YtahmioiefmheeaaDoor
open Go.RowKit

theorem info66 : (Tryd.prog.info? 66).map (fun i => (i.zero, i.size, i.bytes)) = some (some (.slice none 0 0), 1, 24) := by kernel_rfl
/-- Rows of sums that the call made, in a row of its own. -/
def TreeIs (w : World) (A : Nat) (v : Value) (ps : List (List Int)) : Prop :=
  ∃ vs : List Value, w.ownsRow A 66 1 v ps.length vs ∧ ∀ i, i < ps.length → ∃ B c, vs[i]? = some (.slice (some ⟨B, 0, none⟩) ((ps.getD i []).length / 16) c) ∧ Row w B 33 .u8 (ps.getD i []) ∧ v.ownBlock ≠ some B
theorem TreeIs.below {w w' : World} {A : Nat} {v : Value} {ps : List (List Int)} (h : TreeIs w A v ps) (hb : Below w.heap.size w w') : TreeIs w' A v ps := by
  obtain ⟨vs, h1, h3⟩ := h
  refine ⟨vs, ownsRow_below h1 hb, fun i hi => ?_⟩
  obtain ⟨B, c, e, hr, hne⟩ := h3 i hi
  exact ⟨B, c, e, hr.keep hb, hne⟩
theorem TreeIs.one {w : World} {A R B n c : Nat} {p : List Int} (h : Blk w R (.cells #[.slice (some ⟨B, 0, none⟩) n c] 66)) (hr : Row w B 33 .u8 p) (hn : n = p.length / 16) (hAR : A ≤ R) (hne : B ≠ R) : TreeIs w A (.slice (some ⟨R, 0, none⟩) 1 1) [p] := by
  refine ⟨[.slice (some ⟨B, 0, none⟩) n c], ⟨rfl, .inr ⟨R, 1, #[.slice (some ⟨B, 0, none⟩) n c], rfl, hAR, h, Nat.le_refl _, by unfold maxLen; omega, rfl, rfl⟩⟩, fun i hi => ?_⟩
  have h0 : i = 0 := by simpa using hi
  subst h0
  exact ⟨B, c, by rw [hn]; rfl, hr, fun e => hne (by simpa [Value.ownBlock] using e.symm)⟩
/-- append of a row to such rows. -/
theorem wpList_append_tree {w : World} {ops : Array Oper} {rest : List Oper} {o : Oper} {a : Act} {Q : Exit → Act → World → Prop} (hgd : o.guard = none) (s x : Operand)
    (ho : o.op = .call { callee := .builtin .append, args := #[s, x], argTypes := #[137, 137] })
    (A : Nat) (v : Value) (ps : List (List Int)) (hs : a.eval s = v) (ht : TreeIs w A v ps) (E C n c : Nat) (p : List Int) (hx : a.eval x = .slice (some ⟨E, 0, none⟩) 1 1) (hE : w.cell? ⟨E, 0, none⟩ = some (.slice (some ⟨C, 0, none⟩) n c))
    (hn : n = p.length / 16) (hC : Row w C 33 .u8 p) (hCv : v.ownBlock ≠ some C) (hl : ps.length ≤ 100) (hA : A ≤ w.heap.size)
    (h : ∀ v' w', TreeIs w' A v' (ps ++ [p]) → Row w' C 33 .u8 p → v'.ownBlock ≠ some C → Below A w w' → wpList Tryd.prog ops Q rest (a.put o.dst v') w') : wpList Tryd.prog ops Q (o :: rest) a w := by
  obtain ⟨i0, hi, hz0, hz1, hz2⟩ := info_parts info66
  obtain ⟨vs, h1, h3⟩ := ht
  refine wpList_append_own2 (w := w) hgd s x 137 ho A 66 i0 (.slice none 0 0) 1 24 Tryd.underlying137 hi hz0 hz1 hz2 rfl (by decide) v ps.length vs hs h1 ⟨E, 0, none⟩ 1 1 [.slice (some ⟨C, 0, none⟩) n c] hx rfl ?_ ?_ (by unfold maxLen; omega) (by omega) hA fun v' w' r1 r2 r3 => ?_
  · intro j u hu
    cases j with
    | zero =>
      simp only [List.getElem?_cons_zero] at hu
      rw [← hu]
      exact hE
    | succ j => simp at hu
  · intro u hu
    simp only [List.mem_singleton] at hu
    rw [hu]
    rfl
  have hb : Below A w w' := below_row_grown (Below.refl _ _) hA h1 r2
  have keepR : ∀ B l, Row w B 33 .u8 l → v.ownBlock ≠ some B → Row w' B 33 .u8 l := fun B l hr hne => (r2.block B hr.lt (fun e => hne e.symm)).trans hr
  have newB : ∀ B l, Row w B 33 .u8 l → v.ownBlock ≠ some B → v'.ownBlock ≠ some B := fun B l hr hne e => by
    rcases r3 B e with h | h
    · exact hne h
    · have := hr.lt
      omega
  have hvl : vs.length = ps.length := by have := h1.1; omega
  refine h v' w' ⟨vs ++ [.slice (some ⟨C, 0, none⟩) n c], by rw [List.length_append]; exact r1, fun i hi => ?_⟩ (keepR C p hC hCv) (newB C p hC hCv) hb
  rw [List.length_append] at hi
  by_cases hlt : i < ps.length
  · obtain ⟨B, c', e, hr, hne⟩ := h3 i hlt
    have hg : (ps ++ [p]).getD i [] = ps.getD i [] := by rw [List.getD_eq_getElem?_getD, List.getD_eq_getElem?_getD, List.getElem?_append_left hlt]
    rw [hg]
    exact ⟨B, c', by rw [List.getElem?_append_left (by omega)]; exact e, keepR _ _ hr hne, newB _ _ hr hne⟩
  · have hi' : i = ps.length := by simp at hi; omega
    have hg : (ps ++ [p]).getD i [] = p := by rw [List.getD_eq_getElem?_getD, List.getElem?_append_right (by omega), hi', Nat.sub_self]; rfl
    rw [hg]
    exact ⟨C, c, by rw [List.getElem?_append_right (by omega), hi', hvl, Nat.sub_self, hn]; rfl, keepR _ _ hC hCv, newB _ _ hC hCv⟩
/-- Rows of sums, to be read. -/
def TreeAt (w : World) (v : Value) (ps : List (List Int)) : Prop :=
  ∃ R c, v = .slice (some ⟨R, 0, none⟩) ps.length c ∧ R < w.heap.size ∧ ∀ i, i < ps.length → ∃ B c', w.cell? ⟨R, i, none⟩ = some (.slice (some ⟨B, 0, none⟩) ((ps.getD i []).length / 16) c') ∧ Row w B 33 .u8 (ps.getD i [])
theorem TreeIs.at {w : World} {A : Nat} {v : Value} {ps : List (List Int)} (h : TreeIs w A v ps) (h0 : 0 < ps.length) : TreeAt w v ps := by
  obtain ⟨vs, h1, h3⟩ := h
  rcases h1.2 with ⟨_, hn⟩ | ⟨g, cap, cur, rfl, hb, hg, hle, hcap, hsz, ht⟩
  · omega
  · refine ⟨g, cap, rfl, (Array.getElem?_eq_some_iff.1 hg).1, fun i hi => ?_⟩
    obtain ⟨B, c', e, hr, _⟩ := h3 i hi
    refine ⟨B, c', ?_, hr⟩
    rw [cell_of_row w g i cur 66 (0, 0) hg, ← Array.getElem?_toList, ← e, ← ht, List.getElem?_take, if_pos (by omega)]
theorem TreeAt.keep {w w' : World} {v : Value} {ps : List (List Int)} (h : TreeAt w v ps) (hb : Below w.heap.size w w') : TreeAt w' v ps := by
  obtain ⟨R, c, e, hR, h3⟩ := h
  refine ⟨R, c, e, Nat.lt_of_lt_of_le hR hb.size, fun i hi => ?_⟩
  obtain ⟨B, c', e, hr⟩ := h3 i hi
  exact ⟨B, c', (hb.cell (p := ⟨R, i, none⟩) hR).trans e, hr.keep hb⟩
/-- A rung's tree, row by row. -/
def lvlN (d e s r : Int) (x : List Int) (k l : Nat) : List Int := rowsL (fun j => nodeS d e s r x l j) (2 ^ (k - l))
theorem lvlN_len (d e s r : Int) (x : List Int) (k l : Nat) : (lvlN d e s r x k l).length = 2 ^ (k - l) * 16 := rowsL_len (fun _ => nodeS_len _ _ _ _ _ _ _) _
theorem lvlN_bytes (d e s r : Int) (x : List Int) (k l : Nat) : Bytes (lvlN d e s r x k l) := rowsL_bytes (fun _ => nodeS_bytes _ _ _ _ _ _ _) _
theorem lvlN_seg (d e s r : Int) (x : List Int) (k l j : Nat) (hj : j < 2 ^ (k - l)) : segL (lvlN d e s r x k l) j = nodeS d e s r x l j := rowsL_mid (fun _ => nodeS_len _ _ _ _ _ _ _) _ _ hj
theorem rowsL_congr {f g : Nat → List Int} : ∀ n, (∀ i, i < n → f i = g i) → rowsL f n = rowsL g n
  | 0, _ => rfl
  | n + 1, h => by rw [rowsL, rowsL, rowsL_congr n (fun i hi => h i (by omega)), h n (by omega)]
theorem upL_lvl (d e s r : Int) (x : List Int) (k l : Nat) (hl : l < k) : upL d e s r (lvlN d e s r x k l) (2 ^ (k - (l + 1))) = lvlN d e s r x k (l + 1) := by
  have h2 : 2 ^ (k - l) = 2 * 2 ^ (k - (l + 1)) := by rw [show k - l = (k - (l + 1)) + 1 by omega, Nat.pow_succ, Nat.mul_comm]
  refine rowsL_congr _ fun i hi => ?_
  rw [lvlN_seg _ _ _ _ _ _ _ _ (by omega), lvlN_seg _ _ _ _ _ _ _ _ (by omega)]
  have e1 : ((2 * i : Nat) : Int) = 2 * (i : Int) := by omega
  have e2 : ((2 * i + 1 : Nat) : Int) = 2 * (i : Int) + 1 := by omega
  rw [e1, e2]
  rfl
theorem lev_pow {k : Nat} (h : k ≤ 3) : lev ((2 ^ k : Nat) : Int) = k := by
  rcases (show k = 0 ∨ k = 1 ∨ k = 2 ∨ k = 3 by omega) with rfl | rfl | rfl | rfl <;> rfl
abbrev lvls (d e s r : Int) (x : List Int) (k l : Nat) : List (List Int) := (List.range l).map (lvlN d e s r x k)
set_option maxRecDepth 100000 in
set_option maxHeartbeats 1000000 in
theorem tree_any (d e s r : Int) (x : List Int) (k n : Nat) (w : World) (hk : KonIs w) (he : 0 ≤ e ∧ e < 4294967296) (hs : 0 ≤ s ∧ s < 4294967296) (hx : x.length = 16) (hxb : Bytes x) (hk3 : k ≤ 3) (hn : n = 2 ^ k) :
    Calls Tryd.prog 100 #[plV d e s, .int .i64 r, dgV x, .int .i64 n] w fun q w' => ∃ v, q = .returned v ∧ TreeAt w' v (lvls d e s r x k (k + 1)) ∧ Below w.heap.size w w' := by
  have HN := Kp.mk hn
  have h8 : n ≤ 8 := by
    rw [hn]
    rcases (show k = 0 ∨ k = 1 ∨ k = 2 ∨ k = 3 by omega) with rfl | rfl | rfl | rfl <;> decide
  clear hn
  have HK := Kp.mk hk
  have HE := Kp.mk he
  have HS := Kp.mk hs
  have HX := Kp.mk hx
  have HXB := Kp.mk hxb
  have HC := Kp.mk (cells50 hx)
  have hm := make66 n (by omega)
  clear hk he hs hx hxb
  go_enter Tryd.func100, Tryd.ntmps100
  go_wp2_with fail
  obtain ⟨A, hA⟩ : ∃ A, A = w.heap.size := ⟨_, rfl⟩
  have HA := Kp.mk hA
  rw [← hA]
  refine wp_world (fun W => Blk W A (.cells #[.int .i64 d, .int .u32 e, .int .u32 s] 51) ∧ Row W (A + 1) 33 .u8 x ∧ Row W (A + 1 + 1) 33 .u8 (List.replicate (n * 16) 0) ∧ Below A w W) ⟨?_, ?_, ?_, ?_⟩ ?_
  · exact Blk.old (Blk.old (Blk.newAt _ hA) _) _
  · exact Blk.old (Blk.newAt _ (by simp [hA])) _
  · have h := Blk.newAt (w := (w.alloc (.cells #[.int .i64 d, .int .u32 e, .int .u32 s] 51)).alloc (.cells (kv .u8 x).toArray 33)) (b := A + 1 + 1) (.cells (kv .u8 (List.replicate (n * 16) 0)).toArray 33) (by rw [hA]; simp)
    simpa [Row] using h
  · rw [hA]; exact more (more (more (Below.refl _ _) _) _) _
  clear hA hm
  rintro W ⟨g1, g2, g3, g4⟩
  have G1 := Kp.mk g1
  have G2 := Kp.mk g2
  have G3 := Kp.mk g3
  have G4 := Kp.mk g4
  clear g1 g2 g3 g4
  obtain ⟨p, hp⟩ : ∃ p, p = lvlN d e s r x k 0 := ⟨_, rfl⟩
  have HL : Kp (p.length = n * 16 ∧ ∀ i, i < n → (p.drop (i * 16)).take 16 = shortL (leafT d e s r x i)) := ⟨by rw [hp, HN.out]; exact ⟨rowsL_len (fun i => nodeS_len _ _ _ _ _ _ _) _, fun i hi => rowsL_mid (f := fun j => nodeS d e s r x 0 j) (fun i => nodeS_len _ _ _ _ _ _ _) _ i hi⟩⟩
  have HP := Kp.mk hp
  clear hp
  go_loopw [15] (fun c wr => ∃ i : Nat, i ≤ n ∧ c = .int .i64 i ∧ Blk wr A (.cells #[.int .i64 d, .int .u32 e, .int .u32 s] 51) ∧ Row wr (A + 1) 33 .u8 x ∧ Row wr (A + 1 + 1) 33 .u8 (sumsRow p n i) ∧ Below A w wr) (fun c _ => n - (intOf c).toNat)
  case atStart => exact ⟨0, by omega, rfl, G1.out, G2.out, G3.out.as sumsRow_none.symm, G4.out⟩
  case round =>
    obtain ⟨i, hi, rfl, g1, g2, g3, g4⟩ := hrel
    clear G1 G2 G3 G4
    have G1 := Kp.mk g1
    have G2 := Kp.mk g2
    have G3 := Kp.mk g3
    have G4 := Kp.mk g4
    clear g1 g2 g3 g4
    by_cases hlt : i < n
    · go_wp2_with first
        | (refine wpList_load_row rfl 51 (.tmp 4) rfl A rfl 51 _ (0, 0) _ G1.out Tryd.underlying51 rfl (cells51 d e s) ?_)
        | (refine wpList_load_row rfl 33 (.tmp 6) rfl (A + 1) rfl 33 _ (0, 0) _ G2.out Tryd.underlying33 rfl HC.out ?_)
      refine (leaf_any d e s r x i wr (HK.out.keep (by rw [← HA.out]; exact G4.out)) HE.out HS.out HX.out HXB.out).mono ?_
      rintro q w1 ⟨rfl, hb⟩
      have F1 := Kp.mk (G1.out.keep hb)
      have F2 := Kp.mk (G2.out.keep hb)
      have F3 := Kp.mk (G3.out.keep hb)
      have F4 : Kp (Below A w w1) := ⟨G4.out.trans (hb.mono (Nat.le_of_lt G1.out.lt))⟩
      clear hb G1 G2 G3 G4
      obtain ⟨z, hz⟩ : ∃ z, z = shortL (leafT d e s r x i) := ⟨_, rfl⟩
      have HZ : Kp (z.length = 16 ∧ (p.drop (i * 16)).take 16 = z) := ⟨by rw [hz]; exact ⟨shortL_len _, HL.out.2 i hlt⟩⟩
      rw [← hz]
      clear hz
      go_wp2_with (refine wpList_store_mid rfl 33 (.tmp 25) (.tmp 24) rfl (A + 1 + 1) (i * 16) (kv .u8 z).toArray ?a0 rfl ?a1 ?a2 ?a3 ?_)
      case a0 => first | rfl | (go_simp; rfl)
      case a1 =>
        have h := F3.out.there (o := i * 16) (n := 16) (by rw [sumsRow_len HL.out.1 (by omega)]; omega)
        rw [kv_size, HZ.out.1]
        exact h
      case a2 => exact cells50 HZ.out.1
      case a3 => exact kv_all _ _
      have HR3 : Kp (Row (w1.setCells (A + 1 + 1) (i * 16) (kv .u8 z)) (A + 1 + 1) 33 .u8 (sumsRow p n (i + 1))) := ⟨by
        have h := Row.setCells z (i * 16) w1 _ (by rw [sumsRow_len HL.out.1 (by omega), HZ.out.1]; omega) F3.out
        have e := sumsRow_put HL.out.1 hlt
        rw [HZ.out.2] at e
        rw [e] at h
        exact h⟩
      exact ⟨⟨i + 1, by omega, by go_num, Blk.otherCells (by omega) _ _ _ F1.out, Row.otherCells (by omega) _ _ _ F2.out, HR3.out, Below.cells (by omega) _ _ _ _ F4.out⟩, by simp [intOf]; omega⟩
    · have hi' : i = n := by omega
      subst hi'
      rw [sumsRow_all HL.out.1, HP.out] at G3
      have HN' : Kp (i = 2 ^ (k - 0)) := ⟨HN.out⟩
      have HLV : Kp (lev (i : Int) = k) := ⟨by rw [HN.out]; exact lev_pow hk3⟩
      clear HL HP hlt hi G2
      go_wp2_with fail
      refine (levels_any i _).mono ?_
      rintro q w1 ⟨rfl, rfl⟩
      rw [HLV.out]
      go_wp2_with fail
      obtain ⟨R, hR⟩ : ∃ R, R = wr.heap.size := ⟨_, rfl⟩
      rw [← hR]
      refine wp_world (fun W => Blk W A (.cells #[.int .i64 d, .int .u32 e, .int .u32 s] 51) ∧ TreeIs W (A + 2) (.slice (some ⟨R, 0, none⟩) 1 1) (lvls d e s r x k 1) ∧ Row W (A + 2) 33 .u8 (lvlN d e s r x k 0) ∧ (Value.slice (some ⟨R, 0, none⟩) 1 1).ownBlock ≠ some (A + 2) ∧ Below A w W) ⟨Blk.old G1.out _, ?_, Blk.old G3.out _, ?_, G4.out.alloc (Nat.le_of_lt G1.out.lt) _⟩ ?_
      · refine TreeIs.one (B := A + 2) (n := i) (c := i) (Blk.newAt _ hR) (Blk.old G3.out _) ?_ (by have := G3.out.lt; omega) (by have := G3.out.lt; omega)
        rw [lvlN_len, ← HN'.out]; omega
      · intro h
        have := G3.out.lt
        simp only [Value.ownBlock, Option.some.injEq] at h
        omega
      rintro W2 ⟨g1, g2, g3, g4, g5⟩
      have F1 := Kp.mk g1
      have F2 := Kp.mk g2
      have F3 := Kp.mk g3
      have F4 := Kp.mk g4
      have F5 := Kp.mk g5
      clear g1 g2 g3 g4 g5 hR G1 G3 G4 HLV
      go_wp2_with fail
      go_loopw [9, 11, 31] (fun t v c wr => ∃ l C cp n : Nat, l ≤ k ∧ c = .int .i64 l ∧ t = .slice (some ⟨C, 0, none⟩) n cp ∧ n ≤ 8 ∧ Kp (n = 2 ^ (k - l)) ∧ Kp (TreeIs wr (A + 2) v (lvls d e s r x k (l + 1))) ∧ Kp (Row wr C 33 .u8 (lvlN d e s r x k l)) ∧ Kp (v.ownBlock ≠ some C) ∧ Kp (Blk wr A (.cells #[.int .i64 d, .int .u32 e, .int .u32 s] 51)) ∧ Kp (Below A w wr)) (fun _ _ c _ => k - (intOf c).toNat)
      case atStart => exact ⟨0, A + 2, _, _, by omega, rfl, rfl, by omega, HN', F2, F3, F4, F1, F5⟩
      case round =>
        obtain ⟨l, C, cp, n, hl, rfl, rfl, hn8, E1, E2, E3, E4, E5, E6⟩ := hrel
        clear F1 F2 F3 F4 F5 HN'
        by_cases hlt : l < k
        · obtain ⟨m, hm⟩ : ∃ m, m = 2 ^ (k - (l + 1)) := ⟨_, rfl⟩
          have HM : Kp (n = 2 * m) := ⟨by rw [hm, E1.out, show k - l = (k - (l + 1)) + 1 by omega, Nat.pow_succ, Nat.mul_comm]⟩
          have hm4 : m ≤ 4 := by have := HM.out; omega
          have HMe := Kp.mk hm
          clear hm
          go_wp2_with (refine wpList_load_row rfl 51 (.tmp 4) rfl A rfl 51 _ (0, 0) _ E5.out Tryd.underlying51 rfl (cells51 d e s) ?_)
          refine (rowUp_any d e s r (lvlN d e s r x k l) n m C cp wr (HK.out.keep (by rw [← HA.out]; exact E6.out)) HE.out HS.out (by rw [lvlN_len, E1.out]) (lvlN_bytes _ _ _ _ _ _ _) HM.out hm4 E3.out).mono ?_
          rintro q w1 ⟨C', rfl, h1, h2, h3⟩
          rw [HMe.out, upL_lvl _ _ _ _ _ _ _ hlt] at h1
          obtain ⟨E, hE⟩ : ∃ E, E = w1.heap.size := ⟨_, rfl⟩
          obtain ⟨W3, hW3⟩ : ∃ W3, W3 = w1.alloc (.cells #[.slice (some ⟨C', 0, none⟩) m m] 66) := ⟨_, rfl⟩
          have T3 : Kp (TreeIs W3 (A + 2) u11 (lvls d e s r x k (l + 1))) := ⟨by rw [hW3]; exact (E2.out.below h3).below (more (Below.refl _ _) _)⟩
          have R3 : Kp (Row W3 C' 33 .u8 (lvlN d e s r x k (l + 1))) := ⟨by rw [hW3]; exact Row.alloc h1 _⟩
          have C3 : Kp (W3.cell? ⟨E, 0, none⟩ = some (.slice (some ⟨C', 0, none⟩) m m)) := ⟨by rw [hW3, hE]; exact (Blk.new w1 (.cells #[.slice (some ⟨C', 0, none⟩) m m] 66)).cell 0⟩
          have V3 : Kp (u11.ownBlock ≠ some C') := ⟨by
            obtain ⟨vs, k1, _⟩ := E2.out
            intro e
            have := (k1.lt C' e).2
            omega⟩
          have P3 : Kp (Blk W3 A (.cells #[.int .i64 d, .int .u32 e, .int .u32 s] 51)) := ⟨by rw [hW3]; exact Blk.old (E5.out.keep h3) _⟩
          have HAsz : A + 2 ≤ wr.heap.size := by
            obtain ⟨vs, k1, _⟩ := E2.out
            rcases k1.2 with ⟨_, hz⟩ | ⟨g, _, _, _, hg1, hg2, _⟩
            · simp at hz
            · have := (Array.getElem?_eq_some_iff.1 hg2).1
              omega
          have B3 : Kp (Below A w W3) := ⟨by rw [hW3]; exact (E6.out.trans (h3.mono (by omega))).alloc (by have := h3.size; omega) _⟩
          have S3 : Kp (A + 2 ≤ W3.heap.size) := ⟨by rw [hW3]; have := h3.size; simp; omega⟩
          have HNm : Kp (m = (lvlN d e s r x k (l + 1)).length / 16) := ⟨by rw [lvlN_len, ← HMe.out]; omega⟩
          clear h1 h2 h3 E2 E3 E4 E5 E6 HAsz
          go_wp2_with (first
            | (refine wpl_world (· = W3) (by rw [hW3]) ?_; clear hW3; intro W0 e0; rw [e0]; clear e0; rw [← hE]; clear hE; at_builtin; refine wpList_append_tree rfl _ _ rfl (A + 2) u11 (lvls d e s r x k (l + 1)) rfl T3.out E C' m m (lvlN d e s r x k (l + 1)) rfl C3.out HNm.out R3.out V3.out (by simp; omega) S3.out ?_))
          intro v' w4 h1 h2 h3 h4
          have hps : lvls d e s r x k (l + 1) ++ [lvlN d e s r x k (l + 1)] = lvls d e s r x k (l + 1 + 1) := by
            show (List.range (l + 1)).map _ ++ _ = (List.range (l + 1 + 1)).map _
            rw [List.range_succ (n := l + 1), List.map_append]
            rfl
          rw [hps] at h1
          have D1 := Kp.mk h1
          have D2 := Kp.mk h2
          have D3 := Kp.mk h3
          have D4 : Kp (Blk w4 A (.cells #[.int .i64 d, .int .u32 e, .int .u32 s] 51)) := ⟨(h4.block A (by omega)).trans P3.out⟩
          have D5 : Kp (Below A w w4) := ⟨B3.out.trans (h4.mono (by omega))⟩
          clear h1 h2 h3 h4
          go_wp2_with fail
          exact ⟨⟨l + 1, C', m, m, by omega, by go_num, rfl, by omega, HMe, D1, D2, D3, D4, D5⟩, by simp [intOf]; omega⟩
        · have hl' : l = k := by omega
          subst hl'
          go_wp2_with fail
          go_ret
          exact ⟨_, rfl, E2.out.at (by simp), by rw [← HA.out]; exact E6.out⟩
end Go.Proofs.YtahmioiefmheeaaDoor

namespace Go.Proofs.YtahmioiefmheeaaDoor
open Go.RowKit

set_option maxRecDepth 100000 in
set_option maxHeartbeats 1000000 in
theorem next_one (d e s r : Int) (x : List Int) (w : World) (hk : KonIs w) (he : 0 ≤ e ∧ e < 4294967296) (hs : 0 ≤ s ∧ s < 4294967296) (hx : x.length = 16) (hxb : Bytes x) :
    Calls Tryd.prog 96 #[plV d e s, .int .i64 r, dgV x, .int .i64 1] w fun q w' => q = .returned (dgV (shortL (leafT d e s r x 0))) ∧ Below w.heap.size w w' := by
  have HT : Kp (∀ w1, Below w.heap.size w w1 → Calls Tryd.prog 100 #[plV d e s, .int .i64 r, dgV x, .int .i64 1] w1 fun q w' => ∃ R B, q = .returned (.slice (some ⟨R, 0, none⟩) 1 1) ∧ Blk w' R (.cells #[.slice (some ⟨B, 0, none⟩) 1 1] 66) ∧ Row w' B 33 .u8 (shortL (leafT d e s r x 0)) ∧ Below w1.heap.size w1 w') :=
    ⟨fun w1 hb => tree_one d e s r x 1 w1 (hk.keep hb) he hs hx hxb rfl⟩
  have HC := Kp.mk (cells50 hx)
  clear hk he hs hx hxb
  go_enter Tryd.func96, Tryd.ntmps96
  go_wp2_with (refine wpList_load_row rfl 33 (.tmp 6) rfl (w.heap.size + 1) rfl 33 (kv .u8 x).toArray (0, 0) _ (Blk.old (Blk.newAt _ (by simp)) _) Tryd.underlying33 rfl HC.out ?_)
  obtain ⟨A, hA⟩ : ∃ A, A = w.heap.size := ⟨_, rfl⟩
  have HA := Kp.mk hA
  rw [← hA]
  refine calls_world (fun W => Row W (A + 1 + 1) 33 .u8 (fill 16 []) ∧ Below A w W) ⟨Blk.newAt _ (by rw [hA]; simp), by rw [hA]; exact more (more (more (Below.refl _ _) _) _) _⟩ ?_
  rintro W ⟨g1, g2⟩
  have G1 := Kp.mk g1
  have G2 := Kp.mk g2
  clear g1 g2 hA
  refine (HT.out W (by rw [← HA.out]; exact G2.out)).mono ?_
  rintro q w1 ⟨R, B, rfl, h1, h2, h3⟩
  have F0 := Kp.mk (G1.out.keep h3)
  have F1 := Kp.mk h1
  have F2 := Kp.mk h2
  have F3 : Kp (Below A w w1) := ⟨G2.out.trans (h3.mono (by have := G1.out.lt; omega))⟩
  clear h1 h2 h3 G1 G2
  obtain ⟨z, hz⟩ : ∃ z, z = shortL (leafT d e s r x 0) := ⟨_, rfl⟩
  have HZ : Kp (z.length = 16) := ⟨by rw [hz]; exact shortL_len _⟩
  rw [← hz] at F2
  have HK9 := Kp.mk hz
  clear hz
  have c0 : w1.cell? ⟨R, 0, none⟩ = some (.slice (some ⟨B, 0, none⟩) 1 1) := F1.out.cell 0
  go_wp2_with first
    | (refine wpList_load_row rfl 33 (.tmp 21) rfl B rfl 33 (kv .u8 z).toArray (0, 0) _ F2.out Tryd.underlying33 rfl (cells50 HZ.out) ?_)
    | (refine wpList_store_row rfl 33 (.tmp 8) (.tmp 22) rfl (A + 1 + 1) (kv .u8 z).toArray rfl rfl 33 _ F0.out (cells50 HZ.out) (size50 HZ.out) (kv_all _ _) ?_)
  have HF := Kp.mk (F0.out.setRow z)
  have HBf := Kp.mk (Below.row F3.out (g := A + 1 + 1) (by omega) (kv .u8 z).toArray)
  refine bodyPost_ret (v := dgV z) ?_ rfl ⟨by rw [HK9.out], by rw [← HA.out]; exact HBf.out⟩
  exact results_cell_row rfl _ _ (A + 1 + 1) 33 _ (0, 0) _ rfl HF.out Tryd.underlying33 rfl (cells50 HZ.out)
end Go.Proofs.YtahmioiefmheeaaDoor

namespace Go.Proofs.YtahmioiefmheeaaDoor
open Go.RowKit

set_option maxRecDepth 100000 in
set_option maxHeartbeats 1000000 in
theorem up_one (d e s : Int) (x : List Int) (w : World) (hk : KonIs w) (he : 0 ≤ e ∧ e < 4294967296) (hs : 0 ≤ s ∧ s < 4294967296) (hx : x.length = 16) (hxb : Bytes x) :
    Calls Tryd.prog 31 #[plV d e s, .int .i64 0, dgV x, .int .i64 1] w fun q w' => q = .returned (.tuple #[dgV (shortL (leafT d e s 0 x 0)), .int .i64 0]) ∧ Below w.heap.size w w' := by
  have HT : Kp (∀ w1, Below w.heap.size w w1 → Calls Tryd.prog 96 #[plV d e s, .int .i64 0, dgV x, .int .i64 1] w1 fun q w' => q = .returned (dgV (shortL (leafT d e s 0 x 0))) ∧ Below w1.heap.size w1 w') :=
    ⟨fun w1 hb => next_one d e s 0 x w1 (hk.keep hb) he hs hx hxb⟩
  have HC := Kp.mk (cells50 hx)
  clear hk he hs hx hxb
  go_enter Tryd.func31, Tryd.ntmps31
  go_wp2_with fail
  refine (isRung_any 0 _).mono ?_
  rintro q w1 ⟨rfl, rfl⟩
  rw [show rungB 0 = true from rfl]
  go_wp2_with fail
  refine (levels_any 1 _).mono ?_
  rintro q w1 ⟨rfl, rfl⟩
  rw [show lev 1 = 0 from rfl]
  go_wp2_with (refine wpList_load_row rfl 33 (.tmp 6) rfl (w.heap.size + 1) rfl 33 (kv .u8 x).toArray (0, 0) _ (Blk.old (Blk.newAt _ (by simp)) _) Tryd.underlying33 rfl HC.out ?_)
  obtain ⟨A, hA⟩ : ∃ A, A = w.heap.size := ⟨_, rfl⟩
  have HA := Kp.mk hA
  rw [← hA]
  refine calls_world (fun W => Row W (A + 1 + 1) 33 .u8 (fill 16 []) ∧ Below A w W) ⟨Blk.newAt _ (by rw [hA]; simp), by rw [hA]; exact more (more (more (Below.refl _ _) _) _) _⟩ ?_
  rintro W ⟨g1, g2⟩
  have G1 := Kp.mk g1
  have G2 := Kp.mk g2
  clear g1 g2 hA
  refine (HT.out W (by rw [← HA.out]; exact G2.out)).mono ?_
  rintro q w1 ⟨rfl, h3⟩
  have F0 := Kp.mk (G1.out.keep h3)
  have F3 : Kp (Below A w w1) := ⟨G2.out.trans (h3.mono (by have := G1.out.lt; omega))⟩
  clear h3 G1 G2
  obtain ⟨z, hz⟩ : ∃ z, z = shortL (leafT d e s 0 x 0) := ⟨_, rfl⟩
  have HZ : Kp (z.length = 16) := ⟨by rw [hz]; exact shortL_len _⟩
  rw [← hz]
  have HK9 := Kp.mk hz
  clear hz
  go_wp2_with (refine wpList_store_row rfl 33 (.tmp 8) (.tmp 23) rfl (A + 1 + 1) (kv .u8 z).toArray rfl rfl 33 _ F0.out (cells50 HZ.out) (size50 HZ.out) (kv_all _ _) ?_)
  have HF := Kp.mk (F0.out.setRow z)
  have HBf := Kp.mk (Below.row F3.out (g := A + 1 + 1) (by omega) (kv .u8 z).toArray)
  refine bodyPost_ret (v := .tuple #[dgV z, .int .i64 0]) ?_ rfl ⟨by rw [HK9.out], by rw [← HA.out]; exact HBf.out⟩
  rw [results_cell_tmp rfl]
  have hrun := run_loadVar_row (P := Tryd.prog) (w1.setRow (A + 1 + 1) (kv .u8 z).toArray) (A + 1 + 1) 33 33 _ (0, 0) _ HF.out Tryd.underlying33 rfl (cells50 HZ.out)
  show ((loadVar 33 ⟨A + 1 + 1, 0, none⟩).run Tryd.prog (w1.setRow (A + 1 + 1) (kv .u8 z).toArray)).andThen _ = _
  rw [hrun]
  rfl
end Go.Proofs.YtahmioiefmheeaaDoor

namespace Go.Proofs.YtahmioiefmheeaaDoor
open Go.RowKit

theorem lvlN_top (d e s r : Int) (x : List Int) (k : Nat) : lvlN d e s r x k k = nodeS d e s r x k 0 := by
  unfold lvlN
  rw [Nat.sub_self]
  rfl
theorem lvls_get (d e s r : Int) (x : List Int) (k l i : Nat) (hi : i < l) : (lvls d e s r x k l).getD i [] = lvlN d e s r x k i := by
  unfold lvls
  rw [List.getD_eq_getElem?_getD, List.getElem?_map, List.getElem?_range hi]
  rfl
theorem lvls_len (d e s r : Int) (x : List Int) (k l : Nat) : (lvls d e s r x k l).length = l := by simp
theorem lev_inv {m : Int} {k : Nat} (h : lev m = k) : m = ((2 ^ k : Nat) : Int) ∧ k ≤ 3 := by
  have h3 := lev_range m
  have hk : k ≤ 3 := by omega
  refine ⟨?_, hk⟩
  unfold lev at h
  split at h
  · have : k = 0 := by omega
    subst this; assumption
  split at h
  · have : k = 1 := by omega
    subst this; assumption
  split at h
  · have : k = 2 := by omega
    subst this; assumption
  split at h
  · have : k = 3 := by omega
    subst this; assumption
  omega
set_option maxRecDepth 100000 in
set_option maxHeartbeats 1000000 in
theorem next_any (d e s r : Int) (x : List Int) (k n : Nat) (w : World) (hk : KonIs w) (he : 0 ≤ e ∧ e < 4294967296) (hs : 0 ≤ s ∧ s < 4294967296) (hx : x.length = 16) (hxb : Bytes x) (hk3 : k ≤ 3) (hn : n = 2 ^ k) :
    Calls Tryd.prog 96 #[plV d e s, .int .i64 r, dgV x, .int .i64 n] w fun q w' => q = .returned (dgV (nodeS d e s r x k 0)) ∧ Below w.heap.size w w' := by
  have HT : Kp (∀ w1, Below w.heap.size w w1 → Calls Tryd.prog 100 #[plV d e s, .int .i64 r, dgV x, .int .i64 n] w1 fun q w' => ∃ R c B c', q = .returned (.slice (some ⟨R, 0, none⟩) (k + 1) c) ∧ w'.cell? ⟨R, k, none⟩ = some (.slice (some ⟨B, 0, none⟩) 1 c') ∧ Row w' B 33 .u8 (nodeS d e s r x k 0) ∧ Below w1.heap.size w1 w') :=
    ⟨fun w1 hb => (tree_any d e s r x k n w1 (hk.keep hb) he hs hx hxb hk3 hn).mono (by
      rintro q w' ⟨v, rfl, ⟨R, c, rfl, hR, h3⟩, hb'⟩
      obtain ⟨B, c', h4, h5⟩ := h3 k (by rw [lvls_len]; omega)
      rw [lvls_get _ _ _ _ _ _ _ _ (by omega), lvlN_top] at h4 h5
      rw [nodeS_len] at h4
      exact ⟨R, c, B, c', by rw [lvls_len], h4, h5, hb'⟩)⟩
  have HC := Kp.mk (cells50 hx)
  clear hk he hs hx hxb hn
  go_enter Tryd.func96, Tryd.ntmps96
  go_wp2_with (refine wpList_load_row rfl 33 (.tmp 6) rfl (w.heap.size + 1) rfl 33 (kv .u8 x).toArray (0, 0) _ (Blk.old (Blk.newAt _ (by simp)) _) Tryd.underlying33 rfl HC.out ?_)
  obtain ⟨A, hA⟩ : ∃ A, A = w.heap.size := ⟨_, rfl⟩
  have HA := Kp.mk hA
  rw [← hA]
  refine calls_world (fun W => Row W (A + 1 + 1) 33 .u8 (fill 16 []) ∧ Below A w W) ⟨Blk.newAt _ (by rw [hA]; simp), by rw [hA]; exact more (more (more (Below.refl _ _) _) _) _⟩ ?_
  rintro W ⟨g1, g2⟩
  have G1 := Kp.mk g1
  have G2 := Kp.mk g2
  clear g1 g2 hA
  refine (HT.out W (by rw [← HA.out]; exact G2.out)).mono ?_
  rintro q w1 ⟨R, c, B, c', rfl, h1, h2, h3⟩
  have F0 := Kp.mk (G1.out.keep h3)
  have F2 := Kp.mk h2
  have F3 : Kp (Below A w w1) := ⟨G2.out.trans (h3.mono (by have := G1.out.lt; omega))⟩
  clear h2 h3 G1 G2
  obtain ⟨z, hz⟩ : ∃ z, z = nodeS d e s r x k 0 := ⟨_, rfl⟩
  have HZ : Kp (z.length = 16) := ⟨by rw [hz]; exact nodeS_len _ _ _ _ _ _ _⟩
  rw [← hz] at F2
  have HK9 := Kp.mk hz
  clear hz
  have HF := Kp.mk (F0.out.setRow z)
  have HBf := Kp.mk (Below.row F3.out (g := A + 1 + 1) (by omega) (kv .u8 z).toArray)
  rcases (show k = 0 ∨ k = 1 ∨ k = 2 ∨ k = 3 by omega) with rfl | rfl | rfl | rfl
  all_goals
    go_wp2_with first
      | (refine wpList_load_row rfl 33 (.tmp 21) rfl B rfl 33 (kv .u8 z).toArray (0, 0) _ F2.out Tryd.underlying33 rfl (cells50 HZ.out) ?_)
      | (refine wpList_store_row rfl 33 (.tmp 8) (.tmp 22) rfl (A + 1 + 1) (kv .u8 z).toArray rfl rfl 33 _ F0.out (cells50 HZ.out) (size50 HZ.out) (kv_all _ _) ?_)
    refine bodyPost_ret (v := dgV z) ?_ rfl ⟨by rw [HK9.out], by rw [← HA.out]; exact HBf.out⟩
    exact results_cell_row rfl _ _ (A + 1 + 1) 33 _ (0, 0) _ rfl HF.out Tryd.underlying33 rfl (cells50 HZ.out)
/-- What comes of Up. -/
def upS (d e s r : Int) (x : List Int) (m : Int) : List Int := if rightB r m then nodeS d e s r x (lev m).toNat 0 else fill 16 []
def upF (r m : Int) : Int := if rightB r m then 0 else 1
theorem upS_len (d e s r : Int) (x : List Int) (m : Int) : (upS d e s r x m).length = 16 := by
  unfold upS
  split
  · exact nodeS_len _ _ _ _ _ _ _
  · rfl
theorem upS_bytes (d e s r : Int) (x : List Int) (m : Int) : Bytes (upS d e s r x m) := by
  unfold upS
  split
  · exact nodeS_bytes _ _ _ _ _ _ _
  · exact fill_bytes (fun x hx => by simp at hx)
set_option maxRecDepth 100000 in
theorem results_up {w : World} {g : Nat} {z : List Int} {q : Int} {tmps : Array Value} (h8 : tmps.getD 8 undef = .pointer (some ⟨g, 0, none⟩)) (h9 : tmps.getD 9 undef = .int .i64 q) (hr : Row w g 33 .u8 z) (hz : z.length = 16) :
    (results Tryd.f31 tmps).run Tryd.prog w = .ok (.tuple #[dgV z, .int .i64 q]) w := by
  rw [results_cell_tmp rfl]
  have hrun := run_loadVar_row (P := Tryd.prog) w g 33 33 _ (0, 0) _ hr Tryd.underlying33 rfl (cells50 hz)
  simp only [h8, h9, asAddr]
  show ((loadVar 33 ⟨g, 0, none⟩).run Tryd.prog w).andThen _ = _
  rw [hrun]
  rfl
set_option maxRecDepth 100000 in
set_option maxHeartbeats 1000000 in
theorem up_any (d e s r : Int) (x : List Int) (m : Int) (w : World) (hk : KonIs w) (he : 0 ≤ e ∧ e < 4294967296) (hs : 0 ≤ s ∧ s < 4294967296) (hx : x.length = 16) (hxb : Bytes x) :
    Calls Tryd.prog 31 #[plV d e s, .int .i64 r, dgV x, .int .i64 m] w fun q w' => q = .returned (.tuple #[dgV (upS d e s r x m), .int .i64 (upF r m)]) ∧ Below w.heap.size w w' := by
  have HT : Kp (∀ w1, Below w.heap.size w w1 → ∀ k : Nat, lev m = k → Calls Tryd.prog 96 #[plV d e s, .int .i64 r, dgV x, .int .i64 m] w1 fun q w' => q = .returned (dgV (nodeS d e s r x k 0)) ∧ Below w1.heap.size w1 w') :=
    ⟨fun w1 hb k h => by
      obtain ⟨h1, h2⟩ := lev_inv h
      rw [h1]
      exact next_any d e s r x k (2 ^ k) w1 (hk.keep hb) he hs hx hxb h2 rfl⟩
  have HC := Kp.mk (cells50 hx)
  clear hk he hs hx hxb
  obtain ⟨A, hA⟩ : ∃ A, A = w.heap.size := ⟨_, rfl⟩
  have HA := Kp.mk hA
  go_enter Tryd.func31, Tryd.ntmps31
  go_wp2_with fail
  rw [← hA]
  refine calls_world (fun W => Blk W A (.cells #[.int .i64 d, .int .u32 e, .int .u32 s] 51) ∧ Row W (A + 1) 33 .u8 x ∧ Row W (A + 1 + 1) 33 .u8 (fill 16 []) ∧ Below A w W) ⟨Blk.old (Blk.old (Blk.newAt _ hA) _) _, Blk.old (Blk.newAt _ (by simp [hA])) _, Blk.newAt _ (by rw [hA]; simp), by rw [hA]; exact more (more (more (Below.refl _ _) _) _) _⟩ ?_
  clear hA
  rintro W ⟨g1, g2, g3, g4⟩
  have G1 := Kp.mk g1
  have G2 := Kp.mk g2
  have G3 := Kp.mk g3
  have G4 := Kp.mk g4
  clear g1 g2 g3 g4
  have HZ0 : Kp ((fill 16 [] : List Int).length = 16) := ⟨rfl⟩
  have HF0 := Kp.mk (G3.out.setRow (fill 16 []))
  have HB0 := Kp.mk (Below.row G4.out (g := A + 1 + 1) (by omega) (kv .u8 (fill 16 [])).toArray)
  refine (isRung_any r W).mono ?_
  rintro q w1 ⟨rfl, e1⟩
  rw [e1]
  clear e1 w1
  cases hr : rungB r with
  | false =>
    have HU : Kp (upS d e s r x m = fill 16 [] ∧ upF r m = 1) := ⟨by simp [upS, upF, rightB, hr]⟩
    clear hr HT
    go_wp2_with (refine wpList_store_row rfl 33 (.tmp 8) (.tmp 18) rfl (A + 1 + 1) (kv .u8 (fill 16 [])).toArray rfl rfl 33 _ G3.out (cells50 HZ0.out) (size50 HZ0.out) (kv_all _ _) ?_)
    exact bodyPost_ret (results_up rfl rfl HF0.out HZ0.out) rfl ⟨by rw [HU.out.1, HU.out.2], by rw [← HA.out]; exact HB0.out⟩
  | true =>
    go_wp2_with fail
    refine (levels_any m W).mono ?_
    rintro q w1 ⟨rfl, e1⟩
    rw [e1]
    clear e1 w1
    by_cases h0 : lev m < 0
    · have HU : Kp (upS d e s r x m = fill 16 [] ∧ upF r m = 1) := ⟨by
        have : ¬ (0 ≤ lev m) := by omega
        simp [upS, upF, rightB, hr, this]⟩
      clear hr HT
      generalize lev m = L at h0 ⊢
      go_wp2_with (refine wpList_store_row rfl 33 (.tmp 8) (.tmp 18) rfl (A + 1 + 1) (kv .u8 (fill 16 [])).toArray rfl rfl 33 _ G3.out (cells50 HZ0.out) (size50 HZ0.out) (kv_all _ _) ?_)
      exact bodyPost_ret (results_up rfl rfl HF0.out HZ0.out) rfl ⟨by rw [HU.out.1, HU.out.2], by rw [← HA.out]; exact HB0.out⟩
    · obtain ⟨k, hk⟩ : ∃ k : Nat, lev m = k := ⟨(lev m).toNat, by omega⟩
      obtain ⟨z, hz⟩ : ∃ z, z = nodeS d e s r x k 0 := ⟨_, rfl⟩
      have HZ : Kp (z.length = 16) := ⟨by rw [hz]; exact nodeS_len _ _ _ _ _ _ _⟩
      have HU : Kp (upS d e s r x m = z ∧ upF r m = 0) := ⟨by
        have h1 : 0 ≤ lev m := by omega
        have h2 : (lev m).toNat = k := by omega
        simp [upS, upF, rightB, hr, h1, h2, hz]⟩
      have HT' : Kp (∀ w1, Below w.heap.size w w1 → Calls Tryd.prog 96 #[plV d e s, .int .i64 r, dgV x, .int .i64 m] w1 fun q w' => q = .returned (dgV z) ∧ Below w1.heap.size w1 w') := ⟨fun w1 hb => by rw [hz]; exact HT.out w1 hb k hk⟩
      rw [hk]
      clear hr HT hz hk h0
      go_wp2_with first
        | (refine wpList_load_row rfl 51 (.tmp 4) rfl A rfl 51 _ (0, 0) _ G1.out Tryd.underlying51 rfl (cells51 d e s) ?_)
        | (refine wpList_load_row rfl 33 (.tmp 6) rfl (A + 1) rfl 33 (kv .u8 x).toArray (0, 0) _ G2.out Tryd.underlying33 rfl HC.out ?_)
      refine (HT'.out W (by rw [← HA.out]; exact G4.out)).mono ?_
      rintro q w1 ⟨rfl, h3⟩
      have F0 := Kp.mk (G3.out.keep h3)
      have F3 : Kp (Below A w w1) := ⟨G4.out.trans (h3.mono (by have := G1.out.lt; omega))⟩
      have HF := Kp.mk (F0.out.setRow z)
      have HBf := Kp.mk (Below.row F3.out (g := A + 1 + 1) (by omega) (kv .u8 z).toArray)
      clear h3 G1 G2 G3 G4
      go_wp2_with (refine wpList_store_row rfl 33 (.tmp 8) (.tmp 23) rfl (A + 1 + 1) (kv .u8 z).toArray rfl rfl 33 _ F0.out (cells50 HZ.out) (size50 HZ.out) (kv_all _ _) ?_)
      exact bodyPost_ret (results_up rfl rfl HF.out HZ.out) rfl ⟨by rw [HU.out.1, HU.out.2], by rw [← HA.out]; exact HBf.out⟩
end Go.Proofs.YtahmioiefmheeaaDoor

namespace Go.Proofs.YtahmioiefmheeaaDoor
open Go.RowKit

section
variable {P : Program} {ops : Array Oper} {Q : Exit → Act → World → Prop} {S : World → Prop}

/-- oj waits for number x by an edge of its own. -/
def direct (oj : Oper) (x : Nat) : Bool := oj.after.any fun e => Region.binds .any e && e.on == x
theorem direct_spec {oj : Oper} {x : Nat} : direct oj x = true ↔ ∃ e ∈ oj.after, Region.binds .any e = true ∧ e.on = x := by
  unfold direct
  simp only [Array.any_eq_true', Bool.and_eq_true, beq_iff_eq]
def vsOk (ops : Array Oper) (vs : List Nat) (j : Nat) : Bool := match ops[j]? with
  | some oj => (oj.after.all fun e => !Region.binds .any e || (vs.contains e.on && decide (e.on < j))) &&
      (vs.all fun i => !decide (i < j) || direct oj i || (match ops[i]? with | some oi => oi.apart ops oj | none => false))
  | none => false
def bsOk (ops : Array Oper) (vs ps bs : List Nat) (j k : Nat) : Bool := match ops[j]? with
  | some oj => (oj.after.all fun e => !Region.binds .any e || vs.contains e.on || (bs.take k).contains e.on) && ((bs.take k).all fun x => direct oj x) &&
      (vs.all fun x => direct oj x || (ps.contains x && (depsOf ops vs x).all fun d => direct oj d))
  | none => false
def freeOk (ops : Array Oper) (i : Nat) : Bool := (List.range ops.size).all fun j => j == i || match ops[i]?, ops[j]? with | some oi, some oj => direct oj i || direct oi j || oi.apart ops oj | _, _ => false
def partsOkQ (ops : Array Oper) (vs ps bs : List Nat) : Bool :=
  ((List.range ops.size).all fun i => vs.contains i || bs.contains i) && (vs.all fun i => decide (i < ops.size) && !bs.contains i) && (bs.all fun i => decide (i < ops.size)) && decide (vs.Pairwise (· < ·)) && (ps.all fun i => vs.contains i) &&
  (vs.all fun j => vsOk ops vs j) && (bs.zipIdx.all fun q => bsOk ops vs ps bs q.1 q.2) && (ps.all fun i => freeOk ops i)
structure PartsQ (ops : Array Oper) (vs ps bs : List Nat) : Prop where
  all : ∀ i, i < ops.size → i ∈ vs ∨ i ∈ bs
  v : ∀ i ∈ vs, i < ops.size ∧ i ∉ bs
  b : ∀ i ∈ bs, i < ops.size
  lt : vs.Pairwise (· < ·)
  p : ∀ i ∈ ps, i ∈ vs
  vd : ∀ j ∈ vs, ∀ oj, ops[j]? = some oj → (∀ e ∈ oj.after, Region.binds .any e = true → e.on ∈ vs ∧ e.on < j) ∧ (∀ i ∈ vs, i < j → ∀ oi, ops[i]? = some oi → (∀ e ∈ oj.after, Region.binds .any e = true → e.on ≠ i) → oi.apart ops oj = true)
  bd : ∀ (k j : Nat), bs[k]? = some j → ∀ oj, ops[j]? = some oj → (∀ e ∈ oj.after, Region.binds .any e = true → e.on ∈ vs ∨ e.on ∈ bs.take k) ∧ (∀ x ∈ bs.take k, direct oj x = true) ∧ (∀ x ∈ vs, direct oj x = true ∨ (x ∈ ps ∧ ∀ d ∈ depsOf ops vs x, direct oj d = true))
  free : ∀ i ∈ ps, ∀ oi, ops[i]? = some oi → ∀ j oj, ops[j]? = some oj → j ≠ i → (∀ e ∈ oi.after, Region.binds .any e = true → e.on ≠ j) → (∀ e ∈ oj.after, Region.binds .any e = true → e.on ≠ i) → oi.apart ops oj = true
theorem partsQ_of {vs ps bs : List Nat} (h : partsOkQ ops vs ps bs = true) : PartsQ ops vs ps bs := by
  unfold partsOkQ at h
  simp only [Bool.and_eq_true, List.all_eq_true, decide_eq_true_eq, List.mem_range, Bool.or_eq_true, Bool.not_eq_true', List.contains_eq_mem, decide_eq_false_iff_not] at h
  obtain ⟨⟨⟨⟨⟨⟨⟨h1, h2⟩, h3⟩, h4⟩, h5⟩, h6⟩, h7⟩, h8⟩ := h
  refine ⟨h1, h2, h3, h4, h5, fun j hj oj hoj => ?_, fun k j hk oj hoj => ?_, fun i hi oi hoi j oj hoj hne hnj hno => ?_⟩
  · have h := h6 j hj
    unfold vsOk at h
    rw [hoj] at h
    simp only [Bool.and_eq_true, Array.all_eq_true_iff_forall_mem, List.all_eq_true, Bool.or_eq_true, Bool.not_eq_true', decide_eq_true_eq, decide_eq_false_iff_not, List.contains_eq_mem] at h
    refine ⟨fun e he hb => ?_, fun i hi hij oi hoi hno => ?_⟩
    · rcases h.1 e he with g | g
      · rw [hb] at g; cases g
      · exact g
    · rcases h.2 i hi with (g | g) | g
      · exact absurd hij g
      · obtain ⟨e, he, hb, heq⟩ := direct_spec.1 g
        exact absurd heq (hno e he hb)
      · rw [hoi] at g; exact g
  · have hm : (j, k) ∈ bs.zipIdx := by rw [List.mem_zipIdx_iff_getElem?]; exact hk
    have h := h7 _ hm
    unfold bsOk at h
    simp only [hoj, Bool.and_eq_true, Array.all_eq_true_iff_forall_mem, List.all_eq_true, Bool.or_eq_true, Bool.not_eq_true', decide_eq_true_eq, List.contains_eq_mem] at h
    refine ⟨fun e he hb => ?_, h.1.2, h.2⟩
    rcases h.1.1 e he with (g | g) | g
    · rw [hb] at g; cases g
    · exact .inl g
    · exact .inr g
  · have h := h8 i hi
    unfold freeOk at h
    simp only [List.all_eq_true, List.mem_range, Bool.or_eq_true, beq_iff_eq] at h
    have g := h j (Array.getElem?_eq_some_iff.1 hoj).1
    rw [hoi, hoj] at g
    rcases g with g | g
    · exact absurd g hne
    · simp only [Bool.or_eq_true] at g
      rcases g with (g | g) | g
      · obtain ⟨e, he, hb, heq⟩ := direct_spec.1 g
        exact absurd heq (hno e he hb)
      · obtain ⟨e, he, hb, heq⟩ := direct_spec.1 g
        exact absurd heq (hnj e he hb)
      · exact g

/-- The end: one behind the other. -/
theorem wpAny_endQ {vs ps bs : List Nat} (hok : PartsQ ops vs ps bs) : ∀ (rest : List Nat) (k : Nat) (fuel : Nat) (listed : Array Bool) (a : Act) (w : World),
    bs.drop k = rest → listed.size = ops.size → rest.length ≤ fuel → bs.Nodup → (∀ i, i < ops.size → (listed.getD i false = true ↔ i ∉ rest)) →
    wpOps P ops Q rest a w → wpAny P .any ops Q fuel listed a w := by
  intro rest
  induction rest with
  | nil =>
    intro k fuel listed a w hd hsz hf hbnd hl h
    have hr : Region.ready .any ops listed = [] := by
      rw [List.eq_nil_iff_forall_not_mem]
      intro i hi
      obtain ⟨h0, o, ho, _⟩ := mem_ready.1 hi
      have hin := (Array.getElem?_eq_some_iff.1 ho).1
      have := (hl i hin).2 (by simp)
      rw [getD_flip (by omega)] at h0
      rw [h0] at this
      cases this
    cases fuel with
    | zero => exact ⟨hr, h⟩
    | succ fuel => exact ⟨fun _ => h, by rw [hr]; simp⟩
  | cons j rest ih =>
    intro k fuel listed a w hd hsz hf hbnd hl h
    cases fuel with
    | zero => simp at hf
    | succ fuel =>
      have hk : bs[k]? = some j := by
        have := congrArg (fun l => l[0]?) hd
        simpa using this
      have hjb : j ∈ bs := List.mem_of_getElem? hk
      have hjn := hok.b j hjb
      have hdrop : bs.drop (k + 1) = rest := by
        rw [← List.drop_drop, hd]; rfl
      have hbs' : bs = bs.take k ++ j :: rest := by rw [← hd, List.take_append_drop]
      have hnd' : (bs.take k ++ j :: rest).Nodup := hbs' ▸ hbnd
      have hjr : j ∉ rest := fun hm => (List.nodup_cons.1 (List.nodup_append.1 hnd').2.1).1 hm
      have hjf : listed.getD j false = false := by
        have hne : ¬ listed.getD j false = true := fun hx => ((hl j hjn).1 hx) (by simp)
        simpa using hne
      have hunl : listed.getD j true = false := by rw [getD_flip (by omega)]; exact hjf
      obtain ⟨oj, hoj⟩ : ∃ o, ops[j]? = some o := ⟨_, Array.getElem?_eq_getElem hjn⟩
      have hone : ∀ i, i ∈ Region.ready .any ops listed → i = j := fun i hi => by
        obtain ⟨h0, o, ho, hdeps⟩ := mem_ready.1 hi
        have hin := (Array.getElem?_eq_some_iff.1 ho).1
        have hir : i ∈ j :: rest := by
          false_or_by_contra
          rename_i hno
          have := (hl i hin).2 hno
          rw [getD_flip (by omega)] at h0
          rw [h0] at this
          cases this
        cases hir with
        | head => rfl
        | tail _ hir =>
          exfalso
          obtain ⟨m, hm⟩ := List.getElem?_of_mem hir
          have hbi : bs[k + 1 + m]? = some i := by
            have := congrArg (fun l => l[m]?) hdrop
            simp only [List.getElem?_drop] at this
            rw [this, hm]
          have hjt : j ∈ bs.take (k + 1 + m) := List.mem_of_getElem? (i := k) (by rw [List.getElem?_take, if_pos (by omega)]; exact hk)
          obtain ⟨e, he, hb, heq⟩ := direct_spec.1 ((hok.bd _ i hbi o ho).2.1 j hjt)
          have := hdeps e he hb
          rw [heq, hjf] at this
          cases this
      have hready : j ∈ Region.ready .any ops listed := by
        rw [mem_ready]
        refine ⟨hunl, oj, hoj, fun e he hb => ?_⟩
        rcases (hok.bd k j hk oj hoj).1 e he hb with h1 | h1
        · exact (hl _ (hok.v _ h1).1).2 fun hm => (hok.v _ h1).2 (hbs' ▸ List.mem_append_right _ hm)
        · exact (hl _ (hok.b _ (List.mem_of_mem_take h1))).2 fun hm => (List.nodup_append.1 hnd').2.2 _ h1 _ hm rfl
      refine ⟨fun hr => (by rw [hr] at hready; cases hready), fun i hi => ?_⟩
      obtain rfl := hone i hi
      rw [wpOps_cons] at h
      refine wpOp_mono (fun a' w' h' => ih (k + 1) fuel _ a' w' hdrop (by simpa using hsz) (by simp at hf; omega) hbnd (fun x hx => ?_) h') h
      rw [listed_set (by omega)]
      by_cases hxi : x = i
      · subst hxi
        simp [hjr]
      · rw [if_neg hxi, hl x hx]
        simp [hxi]
theorem wpAny_predQ (hmono : Stays S) (hs : ∀ (j : Nat) (o : Oper) cs b, ops[j]? = some o → o.op ≠ .select cs b) {vs ps bs : List Nat} (hok : PartsQ ops vs ps bs) (hdst : dstsOk ops vs = true) (hbnd : bs.Nodup)
    (hQ : ∀ c a w d v, Q (.panic c) (Act.put a d v) w → Q (.panic c) a w)
    {Φ : Nat → World → Value → Prop} (hΦ : ∀ i w w' v, Φ i w v → Below w.heap.size w w' → Φ i w' v) {a0 : Act}
    (need : ∀ i ∈ vs, ∀ (γ : Nat → Value) (w : World), S w → (∀ d ∈ depsOf ops vs i, Φ d w (γ d)) → ∃ o, ops[i]? = some o ∧ PredOp P ops o (Φ i) (putD ops γ (depsOf ops vs i) a0) w)
    (pure : ∀ i ∈ ps, ∀ (γ : Nat → Value) (w : World), S w → (∀ d ∈ depsOf ops vs i, Φ d w (γ d)) → ∃ o v, ops[i]? = some o ∧ Yields P ops o v (putD ops γ (depsOf ops vs i) a0) ∧ Φ i w v)
    (hD : ∀ (γ : Nat → Value) (w : World), S w → (∀ i ∈ vs, Φ i w (γ i)) → wpOps P ops Q bs (putD ops γ vs a0) w) :
    ∀ (fuel : Nat) (listed : Array Bool) (γ : Nat → Value) (L : List Nat) (w : World), listed.size = ops.size → L.Nodup → (∀ i ∈ L, i ∈ vs) → (∀ i ∈ vs, i ∈ L ↔ listed.getD i false = true) → (∀ i ∈ bs, listed.getD i false = false) →
      Closed ops listed → (vs.filter fun i => !L.contains i).length + bs.length ≤ fuel → S w → (∀ i ∈ L, Φ i w (γ i)) → wpAny P .any ops Q fuel listed (putD ops γ L a0) w := by
  have hnd : vs.Nodup := hok.lt.imp fun h => by omega
  have hdd := dstsOk_spec hdst
  have hend : ∀ (fuel : Nat) (listed : Array Bool) (γ : Nat → Value) (L : List Nat) (w : World), listed.size = ops.size → L.Nodup → (∀ i ∈ L, i ∈ vs) → (∀ i ∈ vs, i ∈ L ↔ listed.getD i false = true) → (∀ i ∈ bs, listed.getD i false = false) →
      bs.length ≤ fuel → S w → (∀ i ∈ L, Φ i w (γ i)) → (∀ i ∈ vs, i ∈ L) → wpAny P .any ops Q fuel listed (putD ops γ L a0) w := by
    intro fuel listed γ L w hsz hLn hLv hl hbl hf hS hg hfull
    have hp : L.Perm vs := (List.perm_ext_iff_of_nodup hLn hnd).2 fun x => ⟨hLv x, hfull x⟩
    rw [putD_perm γ hp (fun x hx y hy => hdd x (hLv x hx) y (hLv y hy)) a0]
    refine wpAny_endQ hok bs 0 fuel listed _ w rfl hsz hf hbnd (fun i hi => ?_) (hD γ w hS fun i hi => hg i (hfull i hi))
    rcases hok.all i hi with h | h
    · exact ⟨fun _ hib => (hok.v i h).2 hib, fun _ => (hl i h).1 (hfull i h)⟩
    · exact ⟨fun ht => (by rw [hbl i h] at ht; cases ht), fun hn => absurd h hn⟩
  intro fuel
  induction fuel with
  | zero =>
    intro listed γ L w hsz hLn hLv hl hbl _ hf hS hg
    have h0 : (vs.filter fun i => !L.contains i) = [] := List.length_eq_zero_iff.1 (by omega)
    refine hend 0 listed γ L w hsz hLn hLv hl hbl (by omega) hS hg fun i hi => ?_
    have := List.filter_eq_nil_iff.1 h0 i hi
    simpa using this
  | succ fuel ih =>
    intro listed γ L w hsz hLn hLv hl hbl hcl hf hS hg
    by_cases hfull : ∀ i ∈ vs, i ∈ L
    · exact hend _ listed γ L w hsz hLn hLv hl hbl (by omega) hS hg hfull
    -- what has come up besides does not matter
    have htrans : ∀ i ∈ vs, ∀ oi, ops[i]? = some oi → i ∈ Region.ready .any ops listed → i ∉ L ∧ (∀ d ∈ depsOf ops vs i, d ∈ L) ∧
        execOp (putD ops γ L a0).eval oi = execOp (putD ops γ (depsOf ops vs i) a0).eval oi ∧ Region.wanted oi (yielded ops (putD ops γ L a0).tmps) = Region.wanted oi (yielded ops (putD ops γ (depsOf ops vs i) a0).tmps) := by
      intro i hiv oi hoi hi
      obtain ⟨h0, o', ho', hdeps⟩ := mem_ready.1 hi
      rw [hoi] at ho'
      cases ho'
      have hin : i < ops.size := (hok.v i hiv).1
      have h0' : listed.getD i false = false := by rw [← getD_flip (by rw [hsz]; exact hin)]; exact h0
      have hiL : i ∉ L := fun h => by rw [(hl i hiv).1 h] at h0'; cases h0'
      have hdL : ∀ d ∈ depsOf ops vs i, d ∈ L := fun d hd => by
        obtain ⟨hdv, e, he, hb, heq⟩ := (mem_depsOf hoi).1 hd
        have := hdeps e he hb
        rw [heq] at this
        exact (hl d hdv).2 this
      have hp : L.Perm (depsOf ops vs i ++ L.filter fun x => !(depsOf ops vs i).contains x) := by
        have h1 := (List.filter_append_perm (fun x => (depsOf ops vs i).contains x) L).symm
        refine h1.trans (List.Perm.append_right _ ?_)
        refine (List.perm_ext_iff_of_nodup (hLn.filter _) (hnd.filter _)).2 fun x => ?_
        rw [List.mem_filter]
        simp only [List.contains_eq_mem, decide_eq_true_eq]
        exact ⟨fun h => h.2, fun h => ⟨hdL x h, h⟩⟩
      have hput : putD ops γ L a0 = putD ops γ (L.filter fun x => !(depsOf ops vs i).contains x) (putD ops γ (depsOf ops vs i) a0) := by
        rw [putD_perm γ hp (fun x hx y hy => hdd x (hLv x hx) y (hLv y hy)) a0, putD_append]
      have hsame := same_putD (ops := ops) γ oi (fun cs b => hs i oi cs b hoi) (L.filter fun x => !(depsOf ops vs i).contains x) (putD ops γ (depsOf ops vs i) a0) fun x hx t ht => by
        obtain ⟨hxL, hxd⟩ := List.mem_filter.1 hx
        have hxv := hLv x hxL
        have hxo := Array.getElem?_eq_getElem (hok.v x hxv).1
        have hxd' : x ∉ depsOf ops vs i := by simpa using hxd
        have hdx : (ops[x]'(hok.v x hxv).1).dst = some t := by
          unfold dstOf at ht
          rw [hxo] at ht
          exact ht
        have hno : ∀ e ∈ oi.after, Region.binds .any e = true → e.on ≠ x := fun e he hb heq => hxd' ((mem_depsOf hoi).2 ⟨hxv, e, he, hb, heq⟩)
        have hne : x ≠ i := fun e => hiL (e ▸ hxL)
        rcases Nat.lt_or_gt_of_ne hne with hxi | hxi
        · exact (Oper.apart_spec ((hok.vd i hiv oi hoi).2 x hxv hxi _ hxo hno)).1 t hdx
        · have hap := (hok.vd x hxv _ hxo).2 i hiv hxi oi hoi fun e he hb heq => by
            have := hcl x _ e ((hl x hxv).1 hxL) hxo he hb
            rw [heq, h0'] at this
            cases this
          exact (Oper.apart_spec hap).2.2 t hdx
      rw [hput]
      exact ⟨hiL, hdL, hsame.1, hsame.2⟩
    -- one more has come up
    have hstep : ∀ i ∈ vs, ∀ oi, ops[i]? = some oi → i ∈ Region.ready .any ops listed → i ∉ L → ∀ v w', Φ i w' v → Below w.heap.size w w' → wpAny P .any ops Q fuel (listed.setIfInBounds i true) ((putD ops γ L a0).put oi.dst v) w' := by
      intro i hiv oi hoi hi hiL v w' hv hb
      have hin : i < ops.size := (hok.v i hiv).1
      have hγ : (putD ops γ L a0).put oi.dst v = putD ops (fun k => if k = i then v else γ k) (L ++ [i]) a0 := by
        rw [putD_append, putD_congr (γ := fun k => if k = i then v else γ k) (γ' := γ) L a0 fun k hk => (if_neg (fun e : k = i => hiL (e ▸ hk)) : (if k = i then v else γ k) = γ k)]
        show (putD ops γ L a0).put oi.dst v = (putD ops γ L a0).put (dstOf ops i) (if i = i then v else γ i)
        rw [if_pos rfl]
        unfold dstOf
        rw [hoi]
        rfl
      rw [hγ]
      refine ih _ _ _ _ (by simpa using hsz) ?_ ?_ ?_ ?_ (closed_set hcl hi) ?_ (hmono _ _ hS hb) ?_
      · rw [List.nodup_append]
        exact ⟨hLn, by simp, fun x hx y hy e => by simp at hy; exact hiL (hy ▸ e ▸ hx)⟩
      · intro x hx
        rcases List.mem_append.1 hx with h | h
        · exact hLv x h
        · simp at h; exact h ▸ hiv
      · intro x hx
        rw [listed_set (by rw [hsz]; exact hin), List.mem_append]
        by_cases hxi : x = i
        · subst hxi; simp
        · rw [if_neg hxi, ← hl x hx]; simp [hxi]
      · intro x hx
        have hxi : x ≠ i := fun e => (hok.v i hiv).2 (e ▸ hx)
        rw [listed_set (by rw [hsz]; exact hin), if_neg hxi]
        exact hbl x hx
      · have hlen : (vs.filter fun x => !(L ++ [i]).contains x).length < (vs.filter fun x => !L.contains x).length := by
          have hsub : (vs.filter fun x => !(L ++ [i]).contains x) = (vs.filter fun x => !L.contains x).filter fun x => x != i := by
            rw [List.filter_filter]
            congr 1
            funext x
            simp only [List.contains_eq_mem, List.mem_append, List.mem_singleton]
            by_cases h1 : x ∈ L <;> by_cases h2 : x = i <;> simp [h1, h2]
          rw [hsub]
          refine List.length_filter_lt_length_iff_exists.2 ⟨i, List.mem_filter.2 ⟨hiv, by simpa using hiL⟩, by simp⟩
        omega
      · intro x hx
        rcases List.mem_append.1 hx with h | h
        · have hxi : x ≠ i := fun e => hiL (e ▸ h)
          show Φ x w' (if x = i then v else γ x)
          rw [if_neg hxi]
          exact hΦ x w w' _ (hg x h) hb
        · simp at h
          subst h
          show Φ x w' (if x = x then v else γ x)
          rw [if_pos rfl]
          exact hv
    by_cases hpure : ∃ i ∈ ps, i ∈ Region.ready .any ops listed
    · obtain ⟨i, hip, hi⟩ := hpure
      have hiv := hok.p i hip
      have hoi := Array.getElem?_eq_getElem (hok.v i hiv).1
      obtain ⟨hiL, hdL, e1, e2⟩ := htrans i hiv _ hoi hi
      obtain ⟨o, v, ho, hy, hv⟩ := pure i hip γ w hS fun d hd => hg d (hdL d hd)
      rw [hoi] at ho
      cases ho
      exact wpAny_first hoi hs (fun c a w h => hQ c a w _ v h) fuel listed _ w (fun j oj hj hne hlj hno => hok.free i hip _ hoi j oj hj hne (fun e he hb heq => by
        obtain ⟨_, o', ho', hdeps⟩ := mem_ready.1 hi
        rw [hoi] at ho'
        cases ho'
        have h1 := hdeps e he hb
        rw [heq, ← getD_flip (by rw [hsz]; exact (Array.getElem?_eq_some_iff.1 hj).1), hlj] at h1
        cases h1) hno) hi (hy.of_same e1 e2) (hstep i hiv _ hoi hi hiL v w hv (Below.refl _ _))
    have hno : ∀ i ∈ ps, i ∉ Region.ready .any ops listed := fun i hip hi => hpure ⟨i, hip, hi⟩
    refine ⟨fun hr => ?_, fun i hi => ?_⟩
    · exfalso
      apply hfull
      have : ∀ n i, i ≤ n → i ∈ vs → i ∈ L := by
        intro n
        induction n with
        | zero =>
          intro i hin hi
          false_or_by_contra
          rename_i hiL
          have hio := Array.getElem?_eq_getElem (hok.v i hi).1
          have hm : i ∈ Region.ready .any ops listed := mem_ready.2 ⟨by rw [getD_flip (by rw [hsz]; exact (hok.v i hi).1)]; have := fun h => hiL ((hl i hi).2 h); simpa using this, _, hio, fun e he hb => by
            have := ((hok.vd i hi _ hio).1 e he hb).2
            omega⟩
          rw [hr] at hm
          cases hm
        | succ n ihn =>
          intro i hin hi
          false_or_by_contra
          rename_i hiL
          have hio := Array.getElem?_eq_getElem (hok.v i hi).1
          have hm : i ∈ Region.ready .any ops listed := mem_ready.2 ⟨by rw [getD_flip (by rw [hsz]; exact (hok.v i hi).1)]; have := fun h => hiL ((hl i hi).2 h); simpa using this, _, hio, fun e he hb => by
            obtain ⟨h1, h2⟩ := (hok.vd i hi _ hio).1 e he hb
            exact (hl e.on h1).1 (ihn e.on (by omega) h1)⟩
          rw [hr] at hm
          cases hm
      exact fun i hi => this i i (Nat.le_refl _) hi
    · obtain ⟨h0, oi, hoi, hdeps⟩ := mem_ready.1 hi
      have hin : i < ops.size := (Array.getElem?_eq_some_iff.1 hoi).1
      rcases hok.all i hin with hiv | hib
      · obtain ⟨hiL, hdL, e1, e2⟩ := htrans i hiv oi hoi hi
        obtain ⟨o, ho, hop⟩ := need i hiv γ w hS fun d hd => hg d (hdL d hd)
        rw [hoi] at ho
        cases ho
        exact (hop.of_same e1 e2).wpOp hoi fun v w' hv hb => hstep i hiv oi hoi hi hiL v w' hv hb
      · exfalso
        apply hfull
        intro x hx
        obtain ⟨k, hk⟩ := List.getElem?_of_mem hib
        have hdl : ∀ y, direct oi y = true → listed.getD y false = true := fun y hy => by
          obtain ⟨e, he, hb, heq⟩ := direct_spec.1 hy
          have := hdeps e he hb
          rw [heq] at this
          exact this
        rcases (hok.bd k i hk oi hoi).2.2 x hx with hd | ⟨hxp, hd⟩
        · exact (hl x hx).2 (hdl x hd)
        · false_or_by_contra
          rename_i hxL
          have hxo := Array.getElem?_eq_getElem (hok.v x hx).1
          refine hno x hxp (mem_ready.2 ⟨by rw [getD_flip (by rw [hsz]; exact (hok.v x hx).1)]; have := fun h => hxL ((hl x hx).2 h); simpa using this, _, hxo, fun e he hb => ?_⟩)
          exact hdl _ (hd _ ((mem_depsOf hxo).2 ⟨((hok.vd x hx _ hxo).1 e he hb).1, e, he, hb, rfl⟩))

/-- What is to be shown of the pure operations. -/
def PureE (P : Program) (ops : Array Oper) (S : World → Prop) (Φ : Nat → World → Value → Prop) (a0 : Act) : List Nat → List (List (Nat × Option Tmp)) → Prop
  | i :: r, d :: ds => (∀ (γ : Nat → Value) (w : World), S w → AllE Φ γ w d → ∃ o v, ops[i]? = some o ∧ Yields P ops o v (putE γ d a0) ∧ Φ i w v) ∧ PureE P ops S Φ a0 r ds
  | _, _ => True
theorem pureE_at {vs : List Nat} {Φ : Nat → World → Value → Prop} {a0 : Act} : ∀ l : List Nat, PureE P ops S Φ a0 l (l.map fun i => (depsOf ops vs i).map fun d => (d, dstOf ops d)) → ∀ i ∈ l, ∀ (γ : Nat → Value) (w : World), S w → (∀ d ∈ depsOf ops vs i, Φ d w (γ d)) → ∃ o v, ops[i]? = some o ∧ Yields P ops o v (putD ops γ (depsOf ops vs i) a0) ∧ Φ i w v
  | [], _, _, hi => by cases hi
  | j :: r, h, i, hi => by
    rcases List.mem_cons.1 hi with rfl | hi
    · intro γ w hS hd
      obtain ⟨o, v, ho, hp, hv⟩ := h.1 γ w hS (allE_eq _ hd)
      rw [putE_eq] at hp
      exact ⟨o, v, ho, hp, hv⟩
    · exact pureE_at r h.2 i hi

/-- THE LAW. -/
theorem wp_region_predQ {id : Nat} {a : Act} {w : World} (S : World → Prop) (vs ps bs : List Nat) (Φ : Nat → World → Value → Prop) (dl pl : List (List (Nat × Option Tmp))) (al : List (Nat × Option Tmp)) (hm : P.follows .mixedOrders = true) (hs : Region.noSelect ops = true) (hok : partsOkQ ops vs ps bs = true) (hdst : dstsOk ops vs = true)
    (hdl : (vs.map fun i => (depsOf ops vs i).map fun d => (d, dstOf ops d)) = dl) (hpl : (ps.map fun i => (depsOf ops vs i).map fun d => (d, dstOf ops d)) = pl) (hal : (vs.map fun d => (d, dstOf ops d)) = al) (hbnd : bs.Nodup) (hlen : vs.length + bs.length ≤ ops.size) (hmono : Stays S)
    (hQ : ∀ c a w d v, Q (.panic c) (Act.put a d v) w → Q (.panic c) a w) (hΦ : ∀ i w w' v, Φ i w v → Below w.heap.size w w' → Φ i w' v) (hS : S w.drew)
    (need : NeedE P ops S Φ a vs dl) (pure : PureE P ops S Φ a ps pl)
    (hD : ∀ (γ : Nat → Value) (w : World), S w → AllE Φ γ w al → wpOps P ops Q bs (putE γ al a) w) : (Code.region id ops true).wp P Q a w := by
  have hl0 : ∀ i, (Array.replicate ops.size false).getD i false = false := fun i => by
    by_cases hi : i < ops.size <;> simp [hi]
  subst hdl hpl hal
  refine wp_region_any hm ?_
  exact wpAny_predQ (Q := Q) hmono (Region.noSelect_spec hs) (partsQ_of hok) hdst hbnd hQ hΦ (fun i hi γ wx hSx h => needE_at vs need i hi γ wx hSx h) (fun i hi γ wx hSx h => pureE_at ps pure i hi γ wx hSx h) (fun γ wx hSx h => by rw [← putE_eq]; exact hD γ wx hSx (allE_eq _ h))
    ops.size (Array.replicate ops.size false) (fun _ => undef) [] w.drew (by simp) (by simp) (fun i hi => by cases hi) (fun i _ => by simp [hl0]) (fun i _ => hl0 i)
    (fun i o e hi => by rw [hl0] at hi; cases hi) (Nat.le_trans (Nat.add_le_add_right (List.length_filter_le _ _) _) hlen) hS (fun i hi => by cases hi)
end
end Go.Proofs.YtahmioiefmheeaaDoor
