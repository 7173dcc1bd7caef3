/-
  ladder.tree at every width: rows of sums in a row of the call's own.
  ladder.next, Up at width one.
  ladder.Up at width one.
  ladder.next, ladder.Up, at every width.
  Arguments that came in: an array of bytes by value; a slice of numbers of 64 bits.
  mac.Prf.
  mac.Equal, mac.Same, mac.Pick.
  mac.Pick.
-/
import Derived.Test.YtibbinenhmiclaaDoorSn07
import Derived.OpenShut
import Derived.SizedLaws
import Derived.Laws.BitsLemmas
import Derived.Laws.Closers25b
namespace Go.Proofs.YtibbinenhmiclaaDoor
open Go.RowKit

theorem info66 : (Tryd.prog.info? 50).map (fun i => (i.zero, i.size, i.bytes)) = some (some (.slice none 0 0), 1, 24) := by kernel_rfl
/-- Rows of sums that the call made, in a row of its own. -/
def TreeIs (w : World) (A : Nat) (v : Value) (ps : List (List Int)) : Prop :=
  ∃ vs : List Value, w.ownsRow A 50 1 v ps.length vs ∧ ∀ i, i < ps.length → ∃ B c, vs[i]? = some (.slice (some ⟨B, 0, none⟩) ((ps.getD i []).length / 16) c) ∧ Row w B 43 .u8 (ps.getD i []) ∧ v.ownBlock ≠ some B
theorem TreeIs.below {w w' : World} {A : Nat} {v : Value} {ps : List (List Int)} (h : TreeIs w A v ps) (hb : Below w.heap.size w w') : TreeIs w' A v ps := by
  obtain ⟨vs, h1, h3⟩ := h
  refine ⟨vs, ownsRow_below h1 hb, fun i hi => ?_⟩
  obtain ⟨B, c, e, hr, hne⟩ := h3 i hi
  exact ⟨B, c, e, hr.keep hb, hne⟩
theorem TreeIs.one {w : World} {A R B n c : Nat} {p : List Int} (h : Blk w R (.cells #[.slice (some ⟨B, 0, none⟩) n c] 50)) (hr : Row w B 43 .u8 p) (hn : n = p.length / 16) (hAR : A ≤ R) (hne : B ≠ R) : TreeIs w A (.slice (some ⟨R, 0, none⟩) 1 1) [p] := by
  refine ⟨[.slice (some ⟨B, 0, none⟩) n c], ⟨rfl, .inr ⟨R, 1, #[.slice (some ⟨B, 0, none⟩) n c], rfl, hAR, h, Nat.le_refl _, by unfold maxLen; omega, rfl, rfl⟩⟩, fun i hi => ?_⟩
  have h0 : i = 0 := by simpa using hi
  subst h0
  exact ⟨B, c, by rw [hn]; rfl, hr, fun e => hne (by simpa [Value.ownBlock] using e.symm)⟩
/-- append of a row to such rows. -/
theorem wpList_append_tree {w : World} {ops : Array Oper} {rest : List Oper} {o : Oper} {a : Act} {Q : Exit → Act → World → Prop} (hgd : o.guard = none) (s x : Operand)
    (ho : o.op = .call { callee := .builtin .append, args := #[s, x], argTypes := #[106, 106] })
    (A : Nat) (v : Value) (ps : List (List Int)) (hs : a.eval s = v) (ht : TreeIs w A v ps) (E C n c : Nat) (p : List Int) (hx : a.eval x = .slice (some ⟨E, 0, none⟩) 1 1) (hE : w.cell? ⟨E, 0, none⟩ = some (.slice (some ⟨C, 0, none⟩) n c))
    (hn : n = p.length / 16) (hC : Row w C 43 .u8 p) (hCv : v.ownBlock ≠ some C) (hl : ps.length ≤ 100) (hA : A ≤ w.heap.size)
    (h : ∀ v' w', TreeIs w' A v' (ps ++ [p]) → Row w' C 43 .u8 p → v'.ownBlock ≠ some C → Below A w w' → wpList Tryd.prog ops Q rest (a.put o.dst v') w') : wpList Tryd.prog ops Q (o :: rest) a w := by
  obtain ⟨i0, hi, hz0, hz1, hz2⟩ := info_parts info66
  obtain ⟨vs, h1, h3⟩ := ht
  refine wpList_append_own2 (w := w) hgd s x 106 ho A 50 i0 (.slice none 0 0) 1 24 Tryd.underlying106 hi hz0 hz1 hz2 rfl (by decide) v ps.length vs hs h1 ⟨E, 0, none⟩ 1 1 [.slice (some ⟨C, 0, none⟩) n c] hx rfl ?_ ?_ (by unfold maxLen; omega) (by omega) hA fun v' w' r1 r2 r3 => ?_
  · intro j u hu
    cases j with
    | zero =>
      simp only [List.getElem?_cons_zero] at hu
      rw [← hu]
      exact hE
    | succ j => simp at hu
  · intro u hu
    simp only [List.mem_singleton] at hu
    rw [hu]
    rfl
  have hb : Below A w w' := below_row_grown (Below.refl _ _) hA h1 r2
  have keepR : ∀ B l, Row w B 43 .u8 l → v.ownBlock ≠ some B → Row w' B 43 .u8 l := fun B l hr hne => (r2.block B hr.lt (fun e => hne e.symm)).trans hr
  have newB : ∀ B l, Row w B 43 .u8 l → v.ownBlock ≠ some B → v'.ownBlock ≠ some B := fun B l hr hne e => by
    rcases r3 B e with h | h
    · exact hne h
    · have := hr.lt
      omega
  have hvl : vs.length = ps.length := by have := h1.1; omega
  refine h v' w' ⟨vs ++ [.slice (some ⟨C, 0, none⟩) n c], by rw [List.length_append]; exact r1, fun i hi => ?_⟩ (keepR C p hC hCv) (newB C p hC hCv) hb
  rw [List.length_append] at hi
  by_cases hlt : i < ps.length
  · obtain ⟨B, c', e, hr, hne⟩ := h3 i hlt
    have hg : (ps ++ [p]).getD i [] = ps.getD i [] := by rw [List.getD_eq_getElem?_getD, List.getD_eq_getElem?_getD, List.getElem?_append_left hlt]
    rw [hg]
    exact ⟨B, c', by rw [List.getElem?_append_left (by omega)]; exact e, keepR _ _ hr hne, newB _ _ hr hne⟩
  · have hi' : i = ps.length := by simp at hi; omega
    have hg : (ps ++ [p]).getD i [] = p := by rw [List.getD_eq_getElem?_getD, List.getElem?_append_right (by omega), hi', Nat.sub_self]; rfl
    rw [hg]
    exact ⟨C, c, by rw [List.getElem?_append_right (by omega), hi', hvl, Nat.sub_self, hn]; rfl, keepR _ _ hC hCv, newB _ _ hC hCv⟩
/-- Rows of sums, to be read. -/
def TreeAt (w : World) (v : Value) (ps : List (List Int)) : Prop :=
  ∃ R c, v = .slice (some ⟨R, 0, none⟩) ps.length c ∧ R < w.heap.size ∧ ∀ i, i < ps.length → ∃ B c', w.cell? ⟨R, i, none⟩ = some (.slice (some ⟨B, 0, none⟩) ((ps.getD i []).length / 16) c') ∧ Row w B 43 .u8 (ps.getD i [])
theorem TreeIs.at {w : World} {A : Nat} {v : Value} {ps : List (List Int)} (h : TreeIs w A v ps) (h0 : 0 < ps.length) : TreeAt w v ps := by
  obtain ⟨vs, h1, h3⟩ := h
  rcases h1.2 with ⟨_, hn⟩ | ⟨g, cap, cur, rfl, hb, hg, hle, hcap, hsz, ht⟩
  · omega
  · refine ⟨g, cap, rfl, (Array.getElem?_eq_some_iff.1 hg).1, fun i hi => ?_⟩
    obtain ⟨B, c', e, hr, _⟩ := h3 i hi
    refine ⟨B, c', ?_, hr⟩
    rw [cell_of_row w g i cur 50 (0, 0) hg, ← Array.getElem?_toList, ← e, ← ht, List.getElem?_take, if_pos (by omega)]
theorem TreeAt.keep {w w' : World} {v : Value} {ps : List (List Int)} (h : TreeAt w v ps) (hb : Below w.heap.size w w') : TreeAt w' v ps := by
  obtain ⟨R, c, e, hR, h3⟩ := h
  refine ⟨R, c, e, Nat.lt_of_lt_of_le hR hb.size, fun i hi => ?_⟩
  obtain ⟨B, c', e, hr⟩ := h3 i hi
  exact ⟨B, c', (hb.cell (p := ⟨R, i, none⟩) hR).trans e, hr.keep hb⟩
/-- A rung's tree, row by row. -/
def lvlN (d e s r : Int) (x : List Int) (k l : Nat) : List Int := rowsL (fun j => nodeS d e s r x l j) (2 ^ (k - l))
theorem lvlN_len (d e s r : Int) (x : List Int) (k l : Nat) : (lvlN d e s r x k l).length = 2 ^ (k - l) * 16 := rowsL_len (fun _ => nodeS_len _ _ _ _ _ _ _) _
theorem lvlN_bytes (d e s r : Int) (x : List Int) (k l : Nat) : Bytes (lvlN d e s r x k l) := rowsL_bytes (fun _ => nodeS_bytes _ _ _ _ _ _ _) _
theorem lvlN_seg (d e s r : Int) (x : List Int) (k l j : Nat) (hj : j < 2 ^ (k - l)) : segL (lvlN d e s r x k l) j = nodeS d e s r x l j := rowsL_mid (fun _ => nodeS_len _ _ _ _ _ _ _) _ _ hj
theorem rowsL_congr {f g : Nat → List Int} : ∀ n, (∀ i, i < n → f i = g i) → rowsL f n = rowsL g n
  | 0, _ => rfl
  | n + 1, h => by rw [rowsL, rowsL, rowsL_congr n (fun i hi => h i (by omega)), h n (by omega)]
theorem upL_lvl (d e s r : Int) (x : List Int) (k l : Nat) (hl : l < k) : upL d e s r (lvlN d e s r x k l) (2 ^ (k - (l + 1))) = lvlN d e s r x k (l + 1) := by
  have h2 : 2 ^ (k - l) = 2 * 2 ^ (k - (l + 1)) := by rw [show k - l = (k - (l + 1)) + 1 by omega, Nat.pow_succ, Nat.mul_comm]
  refine rowsL_congr _ fun i hi => ?_
  rw [lvlN_seg _ _ _ _ _ _ _ _ (by omega), lvlN_seg _ _ _ _ _ _ _ _ (by omega)]
  have e1 : ((2 * i : Nat) : Int) = 2 * (i : Int) := by omega
  have e2 : ((2 * i + 1 : Nat) : Int) = 2 * (i : Int) + 1 := by omega
  rw [e1, e2]
  rfl
theorem lev_pow {k : Nat} (h : k ≤ 3) : lev ((2 ^ k : Nat) : Int) = k := by
  rcases (show k = 0 ∨ k = 1 ∨ k = 2 ∨ k = 3 by omega) with rfl | rfl | rfl | rfl <;> rfl
abbrev lvls (d e s r : Int) (x : List Int) (k l : Nat) : List (List Int) := (List.range l).map (lvlN d e s r x k)
set_option maxRecDepth 100000 in
set_option maxHeartbeats 1000000 in
theorem tree_any (d e s r : Int) (x : List Int) (k n : Nat) (w : World) (hk : KonIs w) (he : 0 ≤ e ∧ e < 4294967296) (hs : 0 ≤ s ∧ s < 4294967296) (hx : x.length = 16) (hxb : Bytes x) (hk3 : k ≤ 3) (hn : n = 2 ^ k) :
    Calls Tryd.prog 71 #[plV d e s, .int .i64 r, dgV x, .int .i64 n] w fun q w' => ∃ v, q = .returned v ∧ TreeAt w' v (lvls d e s r x k (k + 1)) ∧ Below w.heap.size w w' := by
  have HN := Kp.mk hn
  have h8 : n ≤ 8 := by
    rw [hn]
    rcases (show k = 0 ∨ k = 1 ∨ k = 2 ∨ k = 3 by omega) with rfl | rfl | rfl | rfl <;> decide
  clear hn
  have HK := Kp.mk hk
  have HE := Kp.mk he
  have HS := Kp.mk hs
  have HX := Kp.mk hx
  have HXB := Kp.mk hxb
  have HC := Kp.mk (cells50 hx)
  have hm := make66 n (by omega)
  clear hk he hs hx hxb
  go_enter Tryd.func71, Tryd.ntmps71
  go_wp2_with fail
  obtain ⟨A, hA⟩ : ∃ A, A = w.heap.size := ⟨_, rfl⟩
  have HA := Kp.mk hA
  rw [← hA]
  refine wp_world (fun W => Blk W A (.cells #[.int .i64 d, .int .u32 e, .int .u32 s] 118) ∧ Row W (A + 1) 43 .u8 x ∧ Row W (A + 1 + 1) 43 .u8 (List.replicate (n * 16) 0) ∧ Below A w W) ⟨?_, ?_, ?_, ?_⟩ ?_
  · exact Blk.old (Blk.old (Blk.newAt _ hA) _) _
  · exact Blk.old (Blk.newAt _ (by simp [hA])) _
  · have h := Blk.newAt (w := (w.alloc (.cells #[.int .i64 d, .int .u32 e, .int .u32 s] 118)).alloc (.cells (kv .u8 x).toArray 43)) (b := A + 1 + 1) (.cells (kv .u8 (List.replicate (n * 16) 0)).toArray 43) (by rw [hA]; simp)
    simpa [Row] using h
  · rw [hA]; exact more (more (more (Below.refl _ _) _) _) _
  clear hA hm
  rintro W ⟨g1, g2, g3, g4⟩
  have G1 := Kp.mk g1
  have G2 := Kp.mk g2
  have G3 := Kp.mk g3
  have G4 := Kp.mk g4
  clear g1 g2 g3 g4
  obtain ⟨p, hp⟩ : ∃ p, p = lvlN d e s r x k 0 := ⟨_, rfl⟩
  have HL : Kp (p.length = n * 16 ∧ ∀ i, i < n → (p.drop (i * 16)).take 16 = shortL (leafT d e s r x i)) := ⟨by rw [hp, HN.out]; exact ⟨rowsL_len (fun i => nodeS_len _ _ _ _ _ _ _) _, fun i hi => rowsL_mid (f := fun j => nodeS d e s r x 0 j) (fun i => nodeS_len _ _ _ _ _ _ _) _ i hi⟩⟩
  have HP := Kp.mk hp
  clear hp
  go_loopw [15] (fun c wr => ∃ i : Nat, i ≤ n ∧ c = .int .i64 i ∧ Blk wr A (.cells #[.int .i64 d, .int .u32 e, .int .u32 s] 118) ∧ Row wr (A + 1) 43 .u8 x ∧ Row wr (A + 1 + 1) 43 .u8 (sumsRow p n i) ∧ Below A w wr) (fun c _ => n - (intOf c).toNat)
  case atStart => exact ⟨0, by omega, rfl, G1.out, G2.out, G3.out.as sumsRow_none.symm, G4.out⟩
  case round =>
    obtain ⟨i, hi, rfl, g1, g2, g3, g4⟩ := hrel
    clear G1 G2 G3 G4
    have G1 := Kp.mk g1
    have G2 := Kp.mk g2
    have G3 := Kp.mk g3
    have G4 := Kp.mk g4
    clear g1 g2 g3 g4
    by_cases hlt : i < n
    · go_wp2_with first
        | (refine wpList_load_row rfl 118 (.tmp 4) rfl A rfl 118 _ (0, 0) _ G1.out Tryd.underlying118 rfl (cells51 d e s) ?_)
        | (refine wpList_load_row rfl 43 (.tmp 6) rfl (A + 1) rfl 43 _ (0, 0) _ G2.out Tryd.underlying43 rfl HC.out ?_)
      refine (leaf_any d e s r x i wr (HK.out.keep (by rw [← HA.out]; exact G4.out)) HE.out HS.out HX.out HXB.out).mono ?_
      rintro q w1 ⟨rfl, hb⟩
      have F1 := Kp.mk (G1.out.keep hb)
      have F2 := Kp.mk (G2.out.keep hb)
      have F3 := Kp.mk (G3.out.keep hb)
      have F4 : Kp (Below A w w1) := ⟨G4.out.trans (hb.mono (Nat.le_of_lt G1.out.lt))⟩
      clear hb G1 G2 G3 G4
      obtain ⟨z, hz⟩ : ∃ z, z = shortL (leafT d e s r x i) := ⟨_, rfl⟩
      have HZ : Kp (z.length = 16 ∧ (p.drop (i * 16)).take 16 = z) := ⟨by rw [hz]; exact ⟨shortL_len _, HL.out.2 i hlt⟩⟩
      rw [← hz]
      clear hz
      go_wp2_with (refine wpList_store_mid rfl 43 (.tmp 25) (.tmp 24) rfl (A + 1 + 1) (i * 16) (kv .u8 z).toArray ?a0 rfl ?a1 ?a2 ?a3 ?_)
      case a0 => first | rfl | (go_simp; rfl)
      case a1 =>
        have h := F3.out.there (o := i * 16) (n := 16) (by rw [sumsRow_len HL.out.1 (by omega)]; omega)
        rw [kv_size, HZ.out.1]
        exact h
      case a2 => exact cells50 HZ.out.1
      case a3 => exact kv_all _ _
      have HR3 : Kp (Row (w1.setCells (A + 1 + 1) (i * 16) (kv .u8 z)) (A + 1 + 1) 43 .u8 (sumsRow p n (i + 1))) := ⟨by
        have h := Row.setCells z (i * 16) w1 _ (by rw [sumsRow_len HL.out.1 (by omega), HZ.out.1]; omega) F3.out
        have e := sumsRow_put HL.out.1 hlt
        rw [HZ.out.2] at e
        rw [e] at h
        exact h⟩
      exact ⟨⟨i + 1, by omega, by go_num, Blk.otherCells (by omega) _ _ _ F1.out, Row.otherCells (by omega) _ _ _ F2.out, HR3.out, Below.cells (by omega) _ _ _ _ F4.out⟩, by simp [intOf]; omega⟩
    · have hi' : i = n := by omega
      subst hi'
      rw [sumsRow_all HL.out.1, HP.out] at G3
      have HN' : Kp (i = 2 ^ (k - 0)) := ⟨HN.out⟩
      have HLV : Kp (lev (i : Int) = k) := ⟨by rw [HN.out]; exact lev_pow hk3⟩
      clear HL HP hlt hi G2
      go_wp2_with fail
      refine (levels_any i _).mono ?_
      rintro q w1 ⟨rfl, rfl⟩
      rw [HLV.out]
      go_wp2_with fail
      obtain ⟨R, hR⟩ : ∃ R, R = wr.heap.size := ⟨_, rfl⟩
      rw [← hR]
      refine wp_world (fun W => Blk W A (.cells #[.int .i64 d, .int .u32 e, .int .u32 s] 118) ∧ TreeIs W (A + 2) (.slice (some ⟨R, 0, none⟩) 1 1) (lvls d e s r x k 1) ∧ Row W (A + 2) 43 .u8 (lvlN d e s r x k 0) ∧ (Value.slice (some ⟨R, 0, none⟩) 1 1).ownBlock ≠ some (A + 2) ∧ Below A w W) ⟨Blk.old G1.out _, ?_, Blk.old G3.out _, ?_, G4.out.alloc (Nat.le_of_lt G1.out.lt) _⟩ ?_
      · refine TreeIs.one (B := A + 2) (n := i) (c := i) (Blk.newAt _ hR) (Blk.old G3.out _) ?_ (by have := G3.out.lt; omega) (by have := G3.out.lt; omega)
        rw [lvlN_len, ← HN'.out]; omega
      · intro h
        have := G3.out.lt
        simp only [Value.ownBlock, Option.some.injEq] at h
        omega
      rintro W2 ⟨g1, g2, g3, g4, g5⟩
      have F1 := Kp.mk g1
      have F2 := Kp.mk g2
      have F3 := Kp.mk g3
      have F4 := Kp.mk g4
      have F5 := Kp.mk g5
      clear g1 g2 g3 g4 g5 hR G1 G3 G4 HLV
      go_wp2_with fail
      go_loopw [9, 11, 31] (fun t v c wr => ∃ l C cp n : Nat, l ≤ k ∧ c = .int .i64 l ∧ t = .slice (some ⟨C, 0, none⟩) n cp ∧ n ≤ 8 ∧ Kp (n = 2 ^ (k - l)) ∧ Kp (TreeIs wr (A + 2) v (lvls d e s r x k (l + 1))) ∧ Kp (Row wr C 43 .u8 (lvlN d e s r x k l)) ∧ Kp (v.ownBlock ≠ some C) ∧ Kp (Blk wr A (.cells #[.int .i64 d, .int .u32 e, .int .u32 s] 118)) ∧ Kp (Below A w wr)) (fun _ _ c _ => k - (intOf c).toNat)
      case atStart => exact ⟨0, A + 2, _, _, by omega, rfl, rfl, by omega, HN', F2, F3, F4, F1, F5⟩
      case round =>
        obtain ⟨l, C, cp, n, hl, rfl, rfl, hn8, E1, E2, E3, E4, E5, E6⟩ := hrel
        clear F1 F2 F3 F4 F5 HN'
        by_cases hlt : l < k
        · obtain ⟨m, hm⟩ : ∃ m, m = 2 ^ (k - (l + 1)) := ⟨_, rfl⟩
          have HM : Kp (n = 2 * m) := ⟨by rw [hm, E1.out, show k - l = (k - (l + 1)) + 1 by omega, Nat.pow_succ, Nat.mul_comm]⟩
          have hm4 : m ≤ 4 := by have := HM.out; omega
          have HMe := Kp.mk hm
          clear hm
          go_wp2_with (refine wpList_load_row rfl 118 (.tmp 4) rfl A rfl 118 _ (0, 0) _ E5.out Tryd.underlying118 rfl (cells51 d e s) ?_)
          refine (rowUp_any d e s r (lvlN d e s r x k l) n m C cp wr (HK.out.keep (by rw [← HA.out]; exact E6.out)) HE.out HS.out (by rw [lvlN_len, E1.out]) (lvlN_bytes _ _ _ _ _ _ _) HM.out hm4 E3.out).mono ?_
          rintro q w1 ⟨C', rfl, h1, h2, h3⟩
          rw [HMe.out, upL_lvl _ _ _ _ _ _ _ hlt] at h1
          obtain ⟨E, hE⟩ : ∃ E, E = w1.heap.size := ⟨_, rfl⟩
          obtain ⟨W3, hW3⟩ : ∃ W3, W3 = w1.alloc (.cells #[.slice (some ⟨C', 0, none⟩) m m] 50) := ⟨_, rfl⟩
          have T3 : Kp (TreeIs W3 (A + 2) u11 (lvls d e s r x k (l + 1))) := ⟨by rw [hW3]; exact (E2.out.below h3).below (more (Below.refl _ _) _)⟩
          have R3 : Kp (Row W3 C' 43 .u8 (lvlN d e s r x k (l + 1))) := ⟨by rw [hW3]; exact Row.alloc h1 _⟩
          have C3 : Kp (W3.cell? ⟨E, 0, none⟩ = some (.slice (some ⟨C', 0, none⟩) m m)) := ⟨by rw [hW3, hE]; exact (Blk.new w1 (.cells #[.slice (some ⟨C', 0, none⟩) m m] 50)).cell 0⟩
          have V3 : Kp (u11.ownBlock ≠ some C') := ⟨by
            obtain ⟨vs, k1, _⟩ := E2.out
            intro e
            have := (k1.lt C' e).2
            omega⟩
          have P3 : Kp (Blk W3 A (.cells #[.int .i64 d, .int .u32 e, .int .u32 s] 118)) := ⟨by rw [hW3]; exact Blk.old (E5.out.keep h3) _⟩
          have HAsz : A + 2 ≤ wr.heap.size := by
            obtain ⟨vs, k1, _⟩ := E2.out
            rcases k1.2 with ⟨_, hz⟩ | ⟨g, _, _, _, hg1, hg2, _⟩
            · simp at hz
            · have := (Array.getElem?_eq_some_iff.1 hg2).1
              omega
          have B3 : Kp (Below A w W3) := ⟨by rw [hW3]; exact (E6.out.trans (h3.mono (by omega))).alloc (by have := h3.size; omega) _⟩
          have S3 : Kp (A + 2 ≤ W3.heap.size) := ⟨by rw [hW3]; have := h3.size; simp; omega⟩
          have HNm : Kp (m = (lvlN d e s r x k (l + 1)).length / 16) := ⟨by rw [lvlN_len, ← HMe.out]; omega⟩
          clear h1 h2 h3 E2 E3 E4 E5 E6 HAsz
          go_wp2_with (first
            | (refine wpl_world (· = W3) (by rw [hW3]) ?_; clear hW3; intro W0 e0; rw [e0]; clear e0; rw [← hE]; clear hE; at_builtin; refine wpList_append_tree rfl _ _ rfl (A + 2) u11 (lvls d e s r x k (l + 1)) rfl T3.out E C' m m (lvlN d e s r x k (l + 1)) rfl C3.out HNm.out R3.out V3.out (by simp; omega) S3.out ?_))
          intro v' w4 h1 h2 h3 h4
          have hps : lvls d e s r x k (l + 1) ++ [lvlN d e s r x k (l + 1)] = lvls d e s r x k (l + 1 + 1) := by
            show (List.range (l + 1)).map _ ++ _ = (List.range (l + 1 + 1)).map _
            rw [List.range_succ (n := l + 1), List.map_append]
            rfl
          rw [hps] at h1
          have D1 := Kp.mk h1
          have D2 := Kp.mk h2
          have D3 := Kp.mk h3
          have D4 : Kp (Blk w4 A (.cells #[.int .i64 d, .int .u32 e, .int .u32 s] 118)) := ⟨(h4.block A (by omega)).trans P3.out⟩
          have D5 : Kp (Below A w w4) := ⟨B3.out.trans (h4.mono (by omega))⟩
          clear h1 h2 h3 h4
          go_wp2_with fail
          exact ⟨⟨l + 1, C', m, m, by omega, by go_num, rfl, by omega, HMe, D1, D2, D3, D4, D5⟩, by simp [intOf]; omega⟩
        · have hl' : l = k := by omega
          subst hl'
          go_wp2_with fail
          go_ret
          exact ⟨_, rfl, E2.out.at (by simp), by rw [← HA.out]; exact E6.out⟩
end Go.Proofs.YtibbinenhmiclaaDoor

namespace Go.Proofs.YtibbinenhmiclaaDoor
open Go.RowKit

set_option maxRecDepth 100000 in
set_option maxHeartbeats 1000000 in
theorem next_one (d e s r : Int) (x : List Int) (w : World) (hk : KonIs w) (he : 0 ≤ e ∧ e < 4294967296) (hs : 0 ≤ s ∧ s < 4294967296) (hx : x.length = 16) (hxb : Bytes x) :
    Calls Tryd.prog 69 #[plV d e s, .int .i64 r, dgV x, .int .i64 1] w fun q w' => q = .returned (dgV (shortL (leafT d e s r x 0))) ∧ Below w.heap.size w w' := by
  have HT : Kp (∀ w1, Below w.heap.size w w1 → Calls Tryd.prog 71 #[plV d e s, .int .i64 r, dgV x, .int .i64 1] w1 fun q w' => ∃ R B, q = .returned (.slice (some ⟨R, 0, none⟩) 1 1) ∧ Blk w' R (.cells #[.slice (some ⟨B, 0, none⟩) 1 1] 50) ∧ Row w' B 43 .u8 (shortL (leafT d e s r x 0)) ∧ Below w1.heap.size w1 w') :=
    ⟨fun w1 hb => tree_one d e s r x 1 w1 (hk.keep hb) he hs hx hxb rfl⟩
  have HC := Kp.mk (cells50 hx)
  clear hk he hs hx hxb
  go_enter Tryd.func69, Tryd.ntmps69
  go_wp2_with (refine wpList_load_row rfl 43 (.tmp 6) rfl (w.heap.size + 1) rfl 43 (kv .u8 x).toArray (0, 0) _ (Blk.old (Blk.newAt _ (by simp)) _) Tryd.underlying43 rfl HC.out ?_)
  obtain ⟨A, hA⟩ : ∃ A, A = w.heap.size := ⟨_, rfl⟩
  have HA := Kp.mk hA
  rw [← hA]
  refine calls_world (fun W => Row W (A + 1 + 1) 43 .u8 (fill 16 []) ∧ Below A w W) ⟨Blk.newAt _ (by rw [hA]; simp), by rw [hA]; exact more (more (more (Below.refl _ _) _) _) _⟩ ?_
  rintro W ⟨g1, g2⟩
  have G1 := Kp.mk g1
  have G2 := Kp.mk g2
  clear g1 g2 hA
  refine (HT.out W (by rw [← HA.out]; exact G2.out)).mono ?_
  rintro q w1 ⟨R, B, rfl, h1, h2, h3⟩
  have F0 := Kp.mk (G1.out.keep h3)
  have F1 := Kp.mk h1
  have F2 := Kp.mk h2
  have F3 : Kp (Below A w w1) := ⟨G2.out.trans (h3.mono (by have := G1.out.lt; omega))⟩
  clear h1 h2 h3 G1 G2
  obtain ⟨z, hz⟩ : ∃ z, z = shortL (leafT d e s r x 0) := ⟨_, rfl⟩
  have HZ : Kp (z.length = 16) := ⟨by rw [hz]; exact shortL_len _⟩
  rw [← hz] at F2
  have HK9 := Kp.mk hz
  clear hz
  have c0 : w1.cell? ⟨R, 0, none⟩ = some (.slice (some ⟨B, 0, none⟩) 1 1) := F1.out.cell 0
  go_wp2_with first
    | (refine wpList_load_row rfl 43 (.tmp 21) rfl B rfl 43 (kv .u8 z).toArray (0, 0) _ F2.out Tryd.underlying43 rfl (cells50 HZ.out) ?_)
    | (refine wpList_store_row rfl 43 (.tmp 8) (.tmp 22) rfl (A + 1 + 1) (kv .u8 z).toArray rfl rfl 43 _ F0.out (cells50 HZ.out) (size50 HZ.out) (kv_all _ _) ?_)
  have HF := Kp.mk (F0.out.setRow z)
  have HBf := Kp.mk (Below.row F3.out (g := A + 1 + 1) (by omega) (kv .u8 z).toArray)
  refine bodyPost_ret (v := dgV z) ?_ rfl ⟨by rw [HK9.out], by rw [← HA.out]; exact HBf.out⟩
  exact results_cell_row rfl _ _ (A + 1 + 1) 43 _ (0, 0) _ rfl HF.out Tryd.underlying43 rfl (cells50 HZ.out)
end Go.Proofs.YtibbinenhmiclaaDoor

namespace Go.Proofs.YtibbinenhmiclaaDoor
open Go.RowKit

set_option maxRecDepth 100000 in
set_option maxHeartbeats 1000000 in
theorem up_one (d e s : Int) (x : List Int) (w : World) (hk : KonIs w) (he : 0 ≤ e ∧ e < 4294967296) (hs : 0 ≤ s ∧ s < 4294967296) (hx : x.length = 16) (hxb : Bytes x) :
    Calls Tryd.prog 58 #[plV d e s, .int .i64 0, dgV x, .int .i64 1] w fun q w' => q = .returned (.tuple #[dgV (shortL (leafT d e s 0 x 0)), .int .i64 0]) ∧ Below w.heap.size w w' := by
  have HT : Kp (∀ w1, Below w.heap.size w w1 → Calls Tryd.prog 69 #[plV d e s, .int .i64 0, dgV x, .int .i64 1] w1 fun q w' => q = .returned (dgV (shortL (leafT d e s 0 x 0))) ∧ Below w1.heap.size w1 w') :=
    ⟨fun w1 hb => next_one d e s 0 x w1 (hk.keep hb) he hs hx hxb⟩
  have HC := Kp.mk (cells50 hx)
  clear hk he hs hx hxb
  go_enter Tryd.func58, Tryd.ntmps58
  go_wp2_with fail
  refine (isRung_any 0 _).mono ?_
  rintro q w1 ⟨rfl, rfl⟩
  rw [show rungB 0 = true from rfl]
  go_wp2_with fail
  refine (levels_any 1 _).mono ?_
  rintro q w1 ⟨rfl, rfl⟩
  rw [show lev 1 = 0 from rfl]
  go_wp2_with (refine wpList_load_row rfl 43 (.tmp 6) rfl (w.heap.size + 1) rfl 43 (kv .u8 x).toArray (0, 0) _ (Blk.old (Blk.newAt _ (by simp)) _) Tryd.underlying43 rfl HC.out ?_)
  obtain ⟨A, hA⟩ : ∃ A, A = w.heap.size := ⟨_, rfl⟩
  have HA := Kp.mk hA
  rw [← hA]
  refine calls_world (fun W => Row W (A + 1 + 1) 43 .u8 (fill 16 []) ∧ Below A w W) ⟨Blk.newAt _ (by rw [hA]; simp), by rw [hA]; exact more (more (more (Below.refl _ _) _) _) _⟩ ?_
  rintro W ⟨g1, g2⟩
  have G1 := Kp.mk g1
  have G2 := Kp.mk g2
  clear g1 g2 hA
  refine (HT.out W (by rw [← HA.out]; exact G2.out)).mono ?_
  rintro q w1 ⟨rfl, h3⟩
  have F0 := Kp.mk (G1.out.keep h3)
  have F3 : Kp (Below A w w1) := ⟨G2.out.trans (h3.mono (by have := G1.out.lt; omega))⟩
  clear h3 G1 G2
  obtain ⟨z, hz⟩ : ∃ z, z = shortL (leafT d e s 0 x 0) := ⟨_, rfl⟩
  have HZ : Kp (z.length = 16) := ⟨by rw [hz]; exact shortL_len _⟩
  rw [← hz]
  have HK9 := Kp.mk hz
  clear hz
  go_wp2_with (refine wpList_store_row rfl 43 (.tmp 8) (.tmp 23) rfl (A + 1 + 1) (kv .u8 z).toArray rfl rfl 43 _ F0.out (cells50 HZ.out) (size50 HZ.out) (kv_all _ _) ?_)
  have HF := Kp.mk (F0.out.setRow z)
  have HBf := Kp.mk (Below.row F3.out (g := A + 1 + 1) (by omega) (kv .u8 z).toArray)
  refine bodyPost_ret (v := .tuple #[dgV z, .int .i64 0]) ?_ rfl ⟨by rw [HK9.out], by rw [← HA.out]; exact HBf.out⟩
  rw [results_cell_tmp rfl]
  have hrun := run_loadVar_row (P := Tryd.prog) (w1.setRow (A + 1 + 1) (kv .u8 z).toArray) (A + 1 + 1) 43 43 _ (0, 0) _ HF.out Tryd.underlying43 rfl (cells50 HZ.out)
  show ((loadVar 43 ⟨A + 1 + 1, 0, none⟩).run Tryd.prog (w1.setRow (A + 1 + 1) (kv .u8 z).toArray)).andThen _ = _
  rw [hrun]
  rfl
end Go.Proofs.YtibbinenhmiclaaDoor

namespace Go.Proofs.YtibbinenhmiclaaDoor
open Go.RowKit

theorem lvlN_top (d e s r : Int) (x : List Int) (k : Nat) : lvlN d e s r x k k = nodeS d e s r x k 0 := by
  unfold lvlN
  rw [Nat.sub_self]
  rfl
theorem lvls_get (d e s r : Int) (x : List Int) (k l i : Nat) (hi : i < l) : (lvls d e s r x k l).getD i [] = lvlN d e s r x k i := by
  unfold lvls
  rw [List.getD_eq_getElem?_getD, List.getElem?_map, List.getElem?_range hi]
  rfl
theorem lvls_len (d e s r : Int) (x : List Int) (k l : Nat) : (lvls d e s r x k l).length = l := by simp
theorem lev_inv {m : Int} {k : Nat} (h : lev m = k) : m = ((2 ^ k : Nat) : Int) ∧ k ≤ 3 := by
  have h3 := lev_range m
  have hk : k ≤ 3 := by omega
  refine ⟨?_, hk⟩
  unfold lev at h
  split at h
  · have : k = 0 := by omega
    subst this; assumption
  split at h
  · have : k = 1 := by omega
    subst this; assumption
  split at h
  · have : k = 2 := by omega
    subst this; assumption
  split at h
  · have : k = 3 := by omega
    subst this; assumption
  omega
set_option maxRecDepth 100000 in
set_option maxHeartbeats 1000000 in
theorem next_any (d e s r : Int) (x : List Int) (k n : Nat) (w : World) (hk : KonIs w) (he : 0 ≤ e ∧ e < 4294967296) (hs : 0 ≤ s ∧ s < 4294967296) (hx : x.length = 16) (hxb : Bytes x) (hk3 : k ≤ 3) (hn : n = 2 ^ k) :
    Calls Tryd.prog 69 #[plV d e s, .int .i64 r, dgV x, .int .i64 n] w fun q w' => q = .returned (dgV (nodeS d e s r x k 0)) ∧ Below w.heap.size w w' := by
  have HT : Kp (∀ w1, Below w.heap.size w w1 → Calls Tryd.prog 71 #[plV d e s, .int .i64 r, dgV x, .int .i64 n] w1 fun q w' => ∃ R c B c', q = .returned (.slice (some ⟨R, 0, none⟩) (k + 1) c) ∧ w'.cell? ⟨R, k, none⟩ = some (.slice (some ⟨B, 0, none⟩) 1 c') ∧ Row w' B 43 .u8 (nodeS d e s r x k 0) ∧ Below w1.heap.size w1 w') :=
    ⟨fun w1 hb => (tree_any d e s r x k n w1 (hk.keep hb) he hs hx hxb hk3 hn).mono (by
      rintro q w' ⟨v, rfl, ⟨R, c, rfl, hR, h3⟩, hb'⟩
      obtain ⟨B, c', h4, h5⟩ := h3 k (by rw [lvls_len]; omega)
      rw [lvls_get _ _ _ _ _ _ _ _ (by omega), lvlN_top] at h4 h5
      rw [nodeS_len] at h4
      exact ⟨R, c, B, c', by rw [lvls_len], h4, h5, hb'⟩)⟩
  have HC := Kp.mk (cells50 hx)
  clear hk he hs hx hxb hn
  go_enter Tryd.func69, Tryd.ntmps69
  go_wp2_with (refine wpList_load_row rfl 43 (.tmp 6) rfl (w.heap.size + 1) rfl 43 (kv .u8 x).toArray (0, 0) _ (Blk.old (Blk.newAt _ (by simp)) _) Tryd.underlying43 rfl HC.out ?_)
  obtain ⟨A, hA⟩ : ∃ A, A = w.heap.size := ⟨_, rfl⟩
  have HA := Kp.mk hA
  rw [← hA]
  refine calls_world (fun W => Row W (A + 1 + 1) 43 .u8 (fill 16 []) ∧ Below A w W) ⟨Blk.newAt _ (by rw [hA]; simp), by rw [hA]; exact more (more (more (Below.refl _ _) _) _) _⟩ ?_
  rintro W ⟨g1, g2⟩
  have G1 := Kp.mk g1
  have G2 := Kp.mk g2
  clear g1 g2 hA
  refine (HT.out W (by rw [← HA.out]; exact G2.out)).mono ?_
  rintro q w1 ⟨R, c, B, c', rfl, h1, h2, h3⟩
  have F0 := Kp.mk (G1.out.keep h3)
  have F2 := Kp.mk h2
  have F3 : Kp (Below A w w1) := ⟨G2.out.trans (h3.mono (by have := G1.out.lt; omega))⟩
  clear h2 h3 G1 G2
  obtain ⟨z, hz⟩ : ∃ z, z = nodeS d e s r x k 0 := ⟨_, rfl⟩
  have HZ : Kp (z.length = 16) := ⟨by rw [hz]; exact nodeS_len _ _ _ _ _ _ _⟩
  rw [← hz] at F2
  have HK9 := Kp.mk hz
  clear hz
  have HF := Kp.mk (F0.out.setRow z)
  have HBf := Kp.mk (Below.row F3.out (g := A + 1 + 1) (by omega) (kv .u8 z).toArray)
  rcases (show k = 0 ∨ k = 1 ∨ k = 2 ∨ k = 3 by omega) with rfl | rfl | rfl | rfl
  all_goals
    go_wp2_with first
      | (refine wpList_load_row rfl 43 (.tmp 21) rfl B rfl 43 (kv .u8 z).toArray (0, 0) _ F2.out Tryd.underlying43 rfl (cells50 HZ.out) ?_)
      | (refine wpList_store_row rfl 43 (.tmp 8) (.tmp 22) rfl (A + 1 + 1) (kv .u8 z).toArray rfl rfl 43 _ F0.out (cells50 HZ.out) (size50 HZ.out) (kv_all _ _) ?_)
    refine bodyPost_ret (v := dgV z) ?_ rfl ⟨by rw [HK9.out], by rw [← HA.out]; exact HBf.out⟩
    exact results_cell_row rfl _ _ (A + 1 + 1) 43 _ (0, 0) _ rfl HF.out Tryd.underlying43 rfl (cells50 HZ.out)
/-- What comes of Up. -/
def upS (d e s r : Int) (x : List Int) (m : Int) : List Int := if rightB r m then nodeS d e s r x (lev m).toNat 0 else fill 16 []
def upF (r m : Int) : Int := if rightB r m then 0 else 1
theorem upS_len (d e s r : Int) (x : List Int) (m : Int) : (upS d e s r x m).length = 16 := by
  unfold upS
  split
  · exact nodeS_len _ _ _ _ _ _ _
  · rfl
theorem upS_bytes (d e s r : Int) (x : List Int) (m : Int) : Bytes (upS d e s r x m) := by
  unfold upS
  split
  · exact nodeS_bytes _ _ _ _ _ _ _
  · exact fill_bytes (fun x hx => by simp at hx)
set_option maxRecDepth 100000 in
theorem results_up {w : World} {g : Nat} {z : List Int} {q : Int} {tmps : Array Value} (h8 : tmps.getD 8 undef = .pointer (some ⟨g, 0, none⟩)) (h9 : tmps.getD 9 undef = .int .i64 q) (hr : Row w g 43 .u8 z) (hz : z.length = 16) :
    (results Tryd.f58 tmps).run Tryd.prog w = .ok (.tuple #[dgV z, .int .i64 q]) w := by
  rw [results_cell_tmp rfl]
  have hrun := run_loadVar_row (P := Tryd.prog) w g 43 43 _ (0, 0) _ hr Tryd.underlying43 rfl (cells50 hz)
  simp only [h8, h9, asAddr]
  show ((loadVar 43 ⟨g, 0, none⟩).run Tryd.prog w).andThen _ = _
  rw [hrun]
  rfl
set_option maxRecDepth 100000 in
set_option maxHeartbeats 1000000 in
theorem up_any (d e s r : Int) (x : List Int) (m : Int) (w : World) (hk : KonIs w) (he : 0 ≤ e ∧ e < 4294967296) (hs : 0 ≤ s ∧ s < 4294967296) (hx : x.length = 16) (hxb : Bytes x) :
    Calls Tryd.prog 58 #[plV d e s, .int .i64 r, dgV x, .int .i64 m] w fun q w' => q = .returned (.tuple #[dgV (upS d e s r x m), .int .i64 (upF r m)]) ∧ Below w.heap.size w w' := by
  have HT : Kp (∀ w1, Below w.heap.size w w1 → ∀ k : Nat, lev m = k → Calls Tryd.prog 69 #[plV d e s, .int .i64 r, dgV x, .int .i64 m] w1 fun q w' => q = .returned (dgV (nodeS d e s r x k 0)) ∧ Below w1.heap.size w1 w') :=
    ⟨fun w1 hb k h => by
      obtain ⟨h1, h2⟩ := lev_inv h
      rw [h1]
      exact next_any d e s r x k (2 ^ k) w1 (hk.keep hb) he hs hx hxb h2 rfl⟩
  have HC := Kp.mk (cells50 hx)
  clear hk he hs hx hxb
  obtain ⟨A, hA⟩ : ∃ A, A = w.heap.size := ⟨_, rfl⟩
  have HA := Kp.mk hA
  go_enter Tryd.func58, Tryd.ntmps58
  go_wp2_with fail
  rw [← hA]
  refine calls_world (fun W => Blk W A (.cells #[.int .i64 d, .int .u32 e, .int .u32 s] 118) ∧ Row W (A + 1) 43 .u8 x ∧ Row W (A + 1 + 1) 43 .u8 (fill 16 []) ∧ Below A w W) ⟨Blk.old (Blk.old (Blk.newAt _ hA) _) _, Blk.old (Blk.newAt _ (by simp [hA])) _, Blk.newAt _ (by rw [hA]; simp), by rw [hA]; exact more (more (more (Below.refl _ _) _) _) _⟩ ?_
  clear hA
  rintro W ⟨g1, g2, g3, g4⟩
  have G1 := Kp.mk g1
  have G2 := Kp.mk g2
  have G3 := Kp.mk g3
  have G4 := Kp.mk g4
  clear g1 g2 g3 g4
  have HZ0 : Kp ((fill 16 [] : List Int).length = 16) := ⟨rfl⟩
  have HF0 := Kp.mk (G3.out.setRow (fill 16 []))
  have HB0 := Kp.mk (Below.row G4.out (g := A + 1 + 1) (by omega) (kv .u8 (fill 16 [])).toArray)
  refine (isRung_any r W).mono ?_
  rintro q w1 ⟨rfl, e1⟩
  rw [e1]
  clear e1 w1
  cases hr : rungB r with
  | false =>
    have HU : Kp (upS d e s r x m = fill 16 [] ∧ upF r m = 1) := ⟨by simp [upS, upF, rightB, hr]⟩
    clear hr HT
    go_wp2_with (refine wpList_store_row rfl 43 (.tmp 8) (.tmp 18) rfl (A + 1 + 1) (kv .u8 (fill 16 [])).toArray rfl rfl 43 _ G3.out (cells50 HZ0.out) (size50 HZ0.out) (kv_all _ _) ?_)
    exact bodyPost_ret (results_up rfl rfl HF0.out HZ0.out) rfl ⟨by rw [HU.out.1, HU.out.2], by rw [← HA.out]; exact HB0.out⟩
  | true =>
    go_wp2_with fail
    refine (levels_any m W).mono ?_
    rintro q w1 ⟨rfl, e1⟩
    rw [e1]
    clear e1 w1
    by_cases h0 : lev m < 0
    · have HU : Kp (upS d e s r x m = fill 16 [] ∧ upF r m = 1) := ⟨by
        have : ¬ (0 ≤ lev m) := by omega
        simp [upS, upF, rightB, hr, this]⟩
      clear hr HT
      generalize lev m = L at h0 ⊢
      go_wp2_with (refine wpList_store_row rfl 43 (.tmp 8) (.tmp 18) rfl (A + 1 + 1) (kv .u8 (fill 16 [])).toArray rfl rfl 43 _ G3.out (cells50 HZ0.out) (size50 HZ0.out) (kv_all _ _) ?_)
      exact bodyPost_ret (results_up rfl rfl HF0.out HZ0.out) rfl ⟨by rw [HU.out.1, HU.out.2], by rw [← HA.out]; exact HB0.out⟩
    · obtain ⟨k, hk⟩ : ∃ k : Nat, lev m = k := ⟨(lev m).toNat, by omega⟩
      obtain ⟨z, hz⟩ : ∃ z, z = nodeS d e s r x k 0 := ⟨_, rfl⟩
      have HZ : Kp (z.length = 16) := ⟨by rw [hz]; exact nodeS_len _ _ _ _ _ _ _⟩
      have HU : Kp (upS d e s r x m = z ∧ upF r m = 0) := ⟨by
        have h1 : 0 ≤ lev m := by omega
        have h2 : (lev m).toNat = k := by omega
        simp [upS, upF, rightB, hr, h1, h2, hz]⟩
      have HT' : Kp (∀ w1, Below w.heap.size w w1 → Calls Tryd.prog 69 #[plV d e s, .int .i64 r, dgV x, .int .i64 m] w1 fun q w' => q = .returned (dgV z) ∧ Below w1.heap.size w1 w') := ⟨fun w1 hb => by rw [hz]; exact HT.out w1 hb k hk⟩
      rw [hk]
      clear hr HT hz hk h0
      go_wp2_with first
        | (refine wpList_load_row rfl 118 (.tmp 4) rfl A rfl 118 _ (0, 0) _ G1.out Tryd.underlying118 rfl (cells51 d e s) ?_)
        | (refine wpList_load_row rfl 43 (.tmp 6) rfl (A + 1) rfl 43 (kv .u8 x).toArray (0, 0) _ G2.out Tryd.underlying43 rfl HC.out ?_)
      refine (HT'.out W (by rw [← HA.out]; exact G4.out)).mono ?_
      rintro q w1 ⟨rfl, h3⟩
      have F0 := Kp.mk (G3.out.keep h3)
      have F3 : Kp (Below A w w1) := ⟨G4.out.trans (h3.mono (by have := G1.out.lt; omega))⟩
      have HF := Kp.mk (F0.out.setRow z)
      have HBf := Kp.mk (Below.row F3.out (g := A + 1 + 1) (by omega) (kv .u8 z).toArray)
      clear h3 G1 G2 G3 G4
      go_wp2_with (refine wpList_store_row rfl 43 (.tmp 8) (.tmp 23) rfl (A + 1 + 1) (kv .u8 z).toArray rfl rfl 43 _ F0.out (cells50 HZ.out) (size50 HZ.out) (kv_all _ _) ?_)
      exact bodyPost_ret (results_up rfl rfl HF.out HZ.out) rfl ⟨by rw [HU.out.1, HU.out.2], by rw [← HA.out]; exact HBf.out⟩
end Go.Proofs.YtibbinenhmiclaaDoor

namespace Go.Proofs.YtibbinenhmiclaaDoor
open Go.ChangeShapes Go.WideShapes Go.ChangeAt Go.RowKit Go.Deep

theorem okWide_arr {P : Program} {w : World} {r : Reach} {base : Nat} {t e : TypeId} {n : Nat} {v : Value} (ht : P.underlying t = some (.array n e)) (h : Value.okWide P w r base t v) : ∃ cs, v = .agg cs ∧ cs.size = P.cellsOf t := by
  simp only [Value.okWide, ht] at h
  obtain ⟨cs, h1, h2, _⟩ := h
  exact ⟨cs, h1, h2⟩
set_option maxRecDepth 100000 in
/-- An array of bytes that came in by value. -/
theorem open_bytes {H : Type} {enc : TypeId × Value → H} {W : World} {r : Reach} {base b0 : Nat} {spare held : Bool} {t : TypeId} {n : Nat} {v : Value} {d : DataW H} {p : List MemPlace}
    (ht : Tryd.prog.underlying t = some (.array n 5)) (hC : Tryd.prog.cellsOf t = n) (hv : Value.okWide Tryd.prog W r b0 t v) (h : DataW.Trod enc Tryd.prog W base (fun _ => spare) held t v d p) :
    ∃ l : List Int, v = .agg (kv .u8 l).toArray ∧ l.length = n ∧ Bytes l := by
  have c5 : Tryd.prog.cellsOf 5 = 1 := by kernel_rfl
  obtain ⟨cs, rfl, hsz⟩ := okWide_arr ht hv
  obtain ⟨fuel, hf⟩ := h
  obtain ⟨xs, m, rfl, hx, hlen, hn, hel⟩ := DataW.trod_array ht hf
  have hcl : cs.size = n := hsz.trans hC
  have each : ∀ i, i < n → ∃ z : Int, cs.toList[i]? = some (.int .u8 z) ∧ 0 ≤ z ∧ z ≤ 255 := fun i hi => by
    have he := hel i hi
    rw [c5, Nat.mul_one] at he
    rw [List.getElem?_eq_getElem (by omega)] at he
    obtain ⟨k, e1, _, wk⟩ := DataW.trod_int Tryd.underlying5 he
    have h1 : IntKind.u8.min = 0 := rfl
    have h2 : IntKind.u8.max = 255 := rfl
    simp [Lit.wf, h1, h2] at wk
    refine ⟨k, ?_, wk⟩
    have h4 := congrArg (fun l : List Value => l[0]?) e1
    simp only [List.getElem?_take, List.getElem?_drop, Nat.lt_one_iff, if_true, Nat.add_zero] at h4
    simpa [Value.cells] using h4
  obtain ⟨f, hf'⟩ : ∃ f : Nat → Int, ∀ i, i < n → cs.toList[i]? = some (.int .u8 (f i)) ∧ 0 ≤ f i ∧ f i ≤ 255 := by
    refine ⟨fun i => if h : i < n then Classical.choose (each i h) else 0, fun i hi => ?_⟩
    simp only [hi, dif_pos]
    exact Classical.choose_spec (each i hi)
  refine ⟨(List.range n).map f, ?_, by simp, fun z hz => ?_⟩
  · congr 1
    apply Array.toList_inj.1
    apply List.ext_getElem?
    intro i
    by_cases hi : i < n
    · rw [(hf' i hi).1]
      simp [List.getElem?_range hi]
    · rw [List.getElem?_eq_none (by simp; omega), List.getElem?_eq_none (by simp; omega)]
  · obtain ⟨i, hi, rfl⟩ := List.mem_map.1 hz
    exact (hf' i (List.mem_range.1 hi)).2
/-- The slice's cells are the numbers ns, each of 64 bits. -/
def HoldsQ (w : World) (a : Option Addr) (ns : List Int) : Prop :=
  (∀ x ∈ ns, 0 ≤ x ∧ x < 18446744073709551616) ∧ ∀ i, i < ns.length → ∃ b off, a = some ⟨b, off, none⟩ ∧ b < w.heap.size ∧ w.cell? ⟨b, off + i, none⟩ = some (.int .u64 (ns.getD i 0))
theorem HoldsQ.keep {w w' : World} {a : Option Addr} {ns : List Int} (h : HoldsQ w a ns) (hb : Below w.heap.size w w') : HoldsQ w' a ns := by
  refine ⟨h.1, fun i hi => ?_⟩
  obtain ⟨b, off, e1, e2, e3⟩ := h.2 i hi
  exact ⟨b, off, e1, Nat.lt_of_lt_of_le e2 hb.size, (hb.cell (p := ⟨b, off + i, none⟩) e2).trans e3⟩
/-- A slice of numbers that came in. -/
theorem row_nums {H : Type} {enc : TypeId × Value → H} {W : World} {a : Option Addr} {len cap : Nat} {d : DataW H} {p : List MemPlace}
    (k : DataW.Trod enc Tryd.prog W 0 (fun _ => true) true 130 (.slice a len cap) d p) : ∃ ns, ns.length = len ∧ HoldsQ W a ns := by
  obtain ⟨fuel, hf⟩ := k
  rcases open_slice1 Tryd.underlying130 (by kernel_rfl) hf with ⟨hcs, _⟩ | ⟨x, l, c, m, n, V, D, Pl, hcs, hb, hl, hm, hmm, hx, hi⟩
  · simp [Value.cells] at hcs
    obtain ⟨rfl, rfl, rfl⟩ := hcs
    exact ⟨[], rfl, (fun x h => by cases h), fun i hi => by simp at hi⟩
  · simp [Value.cells] at hcs
    obtain ⟨rfl, rfl, rfl⟩ := hcs
    have hmc : m = cap := by simpa using hmm
    have each : ∀ i, i < len → ∃ z : Int, W.cell? (x.add i) = some (.int .u64 z) ∧ 0 ≤ z ∧ z < 18446744073709551616 := fun i him => by
      obtain ⟨hc, ht⟩ := hi i (by omega)
      obtain ⟨u, e0, _, wu⟩ := DataW.trod_int Tryd.underlying99 ht
      simp only [List.cons.injEq, and_true] at e0
      rw [e0] at hc
      have h1 : IntKind.u64.min = 0 := rfl
      have h2 : IntKind.u64.max = 18446744073709551615 := rfl
      simp [Lit.wf, h1, h2] at wu
      exact ⟨u, hc, by omega⟩
    obtain ⟨f, hf'⟩ : ∃ f : Nat → Int, ∀ i, i < len → W.cell? (x.add i) = some (.int .u64 (f i)) ∧ 0 ≤ f i ∧ f i < 18446744073709551616 := by
      refine ⟨fun i => if h : i < len then Classical.choose (each i h) else 0, fun i hi => ?_⟩
      simp only [hi, dif_pos]
      exact Classical.choose_spec (each i hi)
    refine ⟨(List.range len).map f, by simp, fun z hz => ?_, fun i hi' => ?_⟩
    · obtain ⟨i, hi, rfl⟩ := List.mem_map.1 hz
      exact (hf' i (List.mem_range.1 hi)).2
    · simp at hi'
      have h1 := (hf' i hi').1
      have hsp : x.spot = none ∧ x.block < W.heap.size := by
        have h1 := (hf' 0 (by omega)).1
        have h2 : x.add 0 = x := by simp [Addr.add]
        rw [h2] at h1
        exact ⟨World.cell?_spot h1, World.block_lt_of_cell? W _ h1⟩
      obtain ⟨b, off, spot⟩ := x
      simp only at hsp
      obtain ⟨rfl, hlt⟩ := hsp
      have e : (⟨b, off, none⟩ : Addr).add i = ⟨b, off + i, none⟩ := by unfold Addr.add; split <;> simp_all
      rw [e] at h1
      refine ⟨b, off, rfl, hlt, ?_⟩
      rw [h1, List.getD_eq_getElem?_getD, List.getElem?_map, List.getElem?_range hi']
      rfl
set_option maxRecDepth 100000 in
/-- How many there can be. -/
theorem nums_reach {H : Type} {enc : TypeId × Value → H} {W : World} {a : Option Addr} {len cap : Nat} {d : DataW H} {p : List MemPlace}
    (k : DataW.Trod enc Tryd.prog W 0 (fun _ => true) true 130 (.slice a len cap) d p) {ts : List TypeId} {ds : List (DataW H)} {j : Nat}
    (hs : (DataW.weightsEach Tryd.prog ts ds).all (· ≤ reachBytes) = true) (ht : ts[j]? = some 130) (hd : ds[j]? = some d) : 8 * len ≤ 140737488351232 := by
  have hb : Tryd.prog.bytesOf 99 = 8 := by kernel_rfl
  obtain ⟨fuel, hf⟩ := k
  rcases open_slice1 Tryd.underlying130 (by kernel_rfl) hf with ⟨hcs, _⟩ | ⟨x, l, c, m, n, V, D, Pl, hcs, hb, hl, hm, hmm, hx, hi⟩
  · simp [Value.cells] at hcs
    obtain ⟨rfl, rfl, rfl⟩ := hcs
    omega
  · simp [Value.cells] at hcs
    obtain ⟨rfl, rfl, rfl⟩ := hcs
    simp only [Prod.mk.injEq] at hx
    rw [hx.1] at hd
    have := sized_slice hs ht hd Tryd.underlying130
    rw [‹Tryd.prog.bytesOf 99 = 8›] at this
    simp only [List.length_map, List.length_range, reachBytes] at this
    omega
end Go.Proofs.YtibbinenhmiclaaDoor

namespace Go.Proofs.YtibbinenhmiclaaDoor
open Go.RowKit

/-- The bytes of some kind and some numbers. -/
def prfB (k : Int) (n : Nat) (ns : List Int) : List Int := [k, (n : Int) % 256] ++ ns.flatMap be64
theorem flat_len (ns : List Int) : (ns.flatMap be64).length = 8 * ns.length := by
  induction ns with
  | nil => rfl
  | cons x xs ih => rw [List.flatMap_cons, List.length_append, ih, be64_len, List.length_cons]; omega
theorem prfB_len (k : Int) (n : Nat) (ns : List Int) : (prfB k n ns).length = 2 + 8 * ns.length := by
  unfold prfB
  rw [List.length_append, flat_len]
  rfl
theorem prfB_take (k : Int) (n : Nat) (ns : List Int) (i : Nat) (h : i < ns.length) : prfB k n (ns.take (i + 1)) = prfB k n (ns.take i) ++ be64 (ns.getD i 0) := by
  unfold prfB
  rw [take_succ_get h, List.flatMap_append, ← List.append_assoc]
  simp
theorem prfB_bytes (k : Int) (n : Nat) (ns : List Int) (h : 0 ≤ k ∧ k ≤ 255) : Bytes (prfB k n ns) := by
  intro x hx
  unfold prfB at hx
  rcases List.mem_append.1 hx with hx | hx
  · simp at hx
    rcases hx with rfl | rfl
    · exact h
    · omega
  · obtain ⟨y, _, hy⟩ := List.mem_flatMap.1 hx
    exact be64_bytes y x hy
theorem be64_take (x : Int) (j : Nat) (h : j < 8) : (be64 x).take (j + 1) = (be64 x).take j ++ [x / 2 ^ (56 - 8 * j) % 256] := by
  rw [← be64_get x j h, take_succ_get (by rw [be64_len]; exact h)]
/-- A literal of two bytes. -/
theorem ownsRow_two (w : World) (x y : Int) : (w.alloc (.cells #[.int .u8 x, .int .u8 y] 5)).ownsRow w.heap.size 5 1 (.slice (some ⟨w.heap.size, 0, none⟩) 2 2) 2 (bv [x, y]) :=
  ⟨rfl, .inr ⟨w.heap.size, 2, _, rfl, Nat.le_refl _, heap_alloc_new w _, Nat.le_refl _, by unfold maxLen; omega, rfl, rfl⟩⟩
abbrev z118 : Obj := .cells (kv .u8 (fill 32 [])).toArray 70
theorem slice118_all (b : Nat) (w : World) : (Instr.sliceAt 70 (.pointer (some ⟨b, 0, none⟩)) none none none).run Tryd.prog w = .ok (.slice (some ⟨b, 0, none⟩) 32 32) w := slice25_all b w
set_option maxRecDepth 100000 in
set_option maxHeartbeats 1000000 in
theorem prf_any (s : List Int) (k : Int) (n cap : Nat) (a : Option Addr) (ns : List Int) (w : World) (hk : KonIs w) (hs : s.length = 32) (hsb : Bytes s) (hk8 : 0 ≤ k ∧ k ≤ 255) (hn : ns.length = n) (hq : HoldsQ w a ns) (hlen : 8 * n ≤ 140737488351232) :
    Calls Tryd.prog 57 #[.agg (kv .u8 s).toArray, .int .u8 k, .slice a n cap] w fun r w' => r = .returned (.agg (kv .u8 (halfL (macL s (prfB k n ns)))).toArray) ∧ Below w.heap.size w w' := by
  have HK := Kp.mk hk
  have HS := Kp.mk hs
  have HSB := Kp.mk hsb
  have HK8 := Kp.mk hk8
  have HN := Kp.mk hn
  have HQ := Kp.mk hq
  clear hk hs hsb hn hq
  have k0 := hk8.1
  have k1 := hk8.2
  clear hk8
  go_enter Tryd.func57, Tryd.ntmps57
  go_wp2_with fail
  obtain ⟨A, hA⟩ : ∃ A, A = w.heap.size := ⟨_, rfl⟩
  have HA := Kp.mk hA
  rw [← hA]
  refine wp_world (fun W => Row W A 70 .u8 s ∧ Row W (A + 1) 43 .u8 (fill 16 []) ∧ W.ownsRow (A + 1 + 1) 5 1 (.slice (some ⟨A + 1 + 1, 0, none⟩) 2 2) 2 (bv (prfB k n [])) ∧ Below A w W)
    ⟨Blk.old (Blk.old (Blk.newAt _ hA) _) _, Blk.old (Blk.newAt _ (by simp [hA])) _, ?_, by rw [hA]; exact more (more (more (Below.refl _ _) _) _) _⟩ ?_
  · have h := ownsRow_two ((w.alloc (.cells (kv .u8 s).toArray 70)).alloc z50) k ((n : Int) % 256)
    have e : ((w.alloc (.cells (kv .u8 s).toArray 70)).alloc z50).heap.size = A + 1 + 1 := by simp [hA]
    rw [e] at h
    exact h
  generalize hB : A + 1 + 1 = B
  have HB := Kp.mk hB
  clear hA hB
  rintro W ⟨h1, h2, h3, h4⟩
  have G1 := Kp.mk h1
  have G2 := Kp.mk h2
  have G3 := Kp.mk h3
  have G4 := Kp.mk h4
  clear h1 h2 h3 h4
  go_loopw [7, 18] (fun s7 c wr => ∃ (i N : Nat) (a7 : Option Addr) (c7 : Nat), i ≤ n ∧ c = .int .i64 i ∧ s7 = .slice a7 N c7 ∧ Kp (N = 2 + 8 * i) ∧ Row wr A 70 .u8 s ∧ Row wr (A + 1) 43 .u8 (fill 16 []) ∧ wr.ownsRow B 5 1 (.slice a7 N c7) N (bv (prfB k n (ns.take i))) ∧ Below A w wr) (fun _ c _ => n - (intOf c).toNat)
  case atStart => exact ⟨0, 2, _, _, by omega, rfl, rfl, ⟨rfl⟩, G1.out, G2.out, by rw [List.take_zero]; exact G3.out, G4.out⟩
  case round =>
    obtain ⟨i, N, a7, c7, hi, rfl, rfl, HNN, h1, h2, h3, h4⟩ := hrel
    clear G1 G2 G3 G4
    have G1 := Kp.mk h1
    have G2 := Kp.mk h2
    have G3 := Kp.mk h3
    have G4 := Kp.mk h4
    clear h1 h2 h3 h4
    by_cases hlt : i < n
    · obtain ⟨b, off, rfl, hbw, hcell⟩ := HQ.out.2 i (by rw [HN.out]; exact hlt)
      have cw : wr.cell? ⟨b, off + i, none⟩ = some (.int .u64 (ns.getD i 0)) := (World.cell?_of_block (w := w) (a := ⟨b, off + i, none⟩) (G4.out.block b (by rw [HA.out]; exact hbw))).trans hcell
      have hx : 0 ≤ ns.getD i 0 ∧ ns.getD i 0 < 18446744073709551616 := by
        rw [List.getD_eq_getElem?_getD, List.getElem?_eq_getElem (by rw [HN.out]; exact hlt)]
        exact HQ.out.1 _ (List.getElem_mem _)
      have x0 := hx.1
      have x1 := hx.2
      have HST := Kp.mk (prfB_take k n ns i (by rw [HN.out]; exact hlt))
      clear hcell hx
      generalize ns.getD i 0 = x at *
      generalize hP : prfB k n (ns.take i) = p0 at *
      have HP := Kp.mk hP
      clear hP
      have hNb : N ≤ 140737488352000 := by have := HNN.out; omega
      go_wp2_with fail
      clear cw
      go_loopw [7, 22] (fun s7 c wq => ∃ (j L : Nat) (a8 : Option Addr) (c8 : Nat), j ≤ 8 ∧ c = .int .i64 j ∧ s7 = .slice a8 L c8 ∧ Kp (L = N + j) ∧ wq.ownsRow B 5 1 (.slice a8 L c8) L (bv (p0 ++ (be64 x).take j)) ∧ Below B wr wq) (fun _ c _ => 8 - (intOf c).toNat)
      case atStart => exact ⟨0, N, _, _, by omega, rfl, rfl, ⟨rfl⟩, by simpa using G3.out, Below.refl _ _⟩
      case round =>
        obtain ⟨j, L, a8, c8, hj, rfl, rfl, HL, h5, h6⟩ := hrel
        have F1 := Kp.mk h5
        have F2 := Kp.mk h6
        clear h5 h6
        have hLb : L ≤ 140737488352010 := by have := HL.out; omega
        have HSz : Kp (B ≤ wr.heap.size ∧ A ≤ B) := ⟨by have h := F2.out.size; have := G2.out.lt; have := HB.out; omega, by have := HB.out; omega⟩
        by_cases hl8 : j < 8
        · have HT := Kp.mk (be64_take x j hl8)
          go_wp2_with (at_builtin; refine wpList_append_holds rfl _ _ rfl B _ _ _ rfl (F1.out.alloc _) _ _ [x / 2 ^ (56 - 8 * j) % 256] rfl (one_holds wr _ (by omega)) ?d0 ?d1 ?_)
          case d0 => simp; omega
          case d1 => have := HSz.out.1; simp; omega
          intro v2 w2 ho hg
          have hbel : Below B _ w2 := below_row_grown (F2.out.alloc HSz.out.1 _) (by have := HSz.out.1; simp; omega) (F1.out.alloc _) hg
          obtain ⟨L2, hL2⟩ : ∃ L2, L2 = L + 1 := ⟨_, rfl⟩
          have ho2 : w2.ownsRow B 5 1 v2 L2 (bv (p0 ++ (be64 x).take (j + 1))) := by
            rw [HT.out, ← List.append_assoc, hL2]
            simpa using ho
          obtain ⟨a2, c2, rfl⟩ := row_slice ho2
          have HO2 := Kp.mk ho2
          have HB2 := Kp.mk hbel
          have HL2 : Kp (L2 = N + (j + 1)) := ⟨by have := HL.out; omega⟩
          clear ho hg hbel ho2 hL2
          go_wp2_with fail
          exact ⟨⟨j + 1, L2, a2, c2, by omega, by go_num, rfl, HL2, HO2.out, HB2.out⟩, by simp [intOf]; omega⟩
        · have HJ : Kp (j = 8) := ⟨by omega⟩
          have hge : 8 ≤ (j : Int) := by omega
          have HX : Kp (wr.ownsRow B 5 1 (.slice a8 L c8) L (bv (prfB k n (ns.take (i + 1))))) := ⟨by
            have h := F1.out
            rw [HJ.out, List.take_of_length_le (by rw [be64_len]; omega)] at h
            rw [HST.out]
            exact h⟩
          have HG1 := Kp.mk (G1.out.upto F2.out (by have := HSz.out.2; have := HB.out; omega))
          have HG2 := Kp.mk (G2.out.upto F2.out (by have := HB.out; omega))
          have HG4 : Kp (Below A w wr) := ⟨G4.out.trans (F2.out.mono HSz.out.2)⟩
          have HL2 : Kp (L = 2 + 8 * (i + 1)) := ⟨by have := HL.out; have := HJ.out; have := HNN.out; omega⟩
          clear hl8 hj
          go_wp2_with fail
          exact ⟨⟨i + 1, L, a8, c8, by omega, by go_num, rfl, HL2, HG1.out, HG2.out, HX.out, HG4.out⟩, by simp [intOf]; omega⟩
    · have hge : (n : Int) ≤ i := by omega
      have HI : Kp (ns.take i = ns) := ⟨List.take_of_length_le (by have := HN.out; omega)⟩
      have HSz : Kp (B ≤ wr.heap.size ∧ A ≤ B) := ⟨by have := G2.out.lt; have := HB.out; omega, by have := HB.out; omega⟩
      have HO : Kp (HoldsB wr wr.heap.size (.slice a7 N c7) (prfB k n ns)) := ⟨by
        have h := G3.out
        rw [HI.out] at h
        have e : N = (prfB k n ns).length := by rw [prfB_len, HN.out]; have := HNN.out; omega
        have h2 := HoldsB.ofRow (prfB_bytes k n ns HK8.out) (by rw [e] at h; exact h)
        rw [e]
        exact h2⟩
      have HSd : Kp (HoldsB wr wr.heap.size (.slice (some ⟨A, 0, none⟩) 32 32) s) := ⟨by
        have h := HoldsB.ofBytes G1.out HSB.out (by rw [HS.out]; decide)
        rw [HS.out] at h
        exact h⟩
      have HKw : Kp (KonIs wr) := ⟨HK.out.keep (by rw [← HA.out]; exact G4.out)⟩
      have hsl := slice118_all A
      clear hlt hi
      go_wp2_with fail
      clear hsl
      refine (tag_any _ _ _ _ s (prfB k n ns) wr HKw.out HSd.out HO.out (by rw [HS.out]; omega) (by rw [prfB_len, HN.out]; omega)).mono ?_
      rintro r w3 ⟨rfl, h3⟩
      have HR3 := Kp.mk (G2.out.keep h3)
      have HB3 : Kp (Below A w w3) := ⟨G4.out.trans (h3.mono (by have := HSz.out; omega))⟩
      have HD := Kp.mk (halfL_len (macL_len s (prfB k n ns)))
      clear h3
      obtain ⟨d, hd⟩ : ∃ d, d = halfL (macL s (prfB k n ns)) := ⟨_, rfl⟩
      rw [← hd] at HD ⊢
      have HC := Kp.mk (cells50 HD.out)
      have HZ := Kp.mk (size50 HD.out)
      have HF := Kp.mk (HR3.out.setRow d)
      have HBf := Kp.mk (Below.row HB3.out (g := A + 1) (by omega) (kv .u8 d).toArray)
      have HDD := Kp.mk hd
      clear hd
      go_wp2_with (refine wpList_store_row rfl 43 (.tmp 6) (.tmp 38) rfl (A + 1) (kv .u8 d).toArray rfl rfl 43 _ HR3.out HC.out HZ.out (kv_all _ _) ?_)
      refine bodyPost_ret (v := .agg (kv .u8 d).toArray) ?_ rfl ⟨by rw [HDD.out], by rw [← HA.out]; exact HBf.out⟩
      exact results_cell_row rfl _ _ (A + 1) 43 _ (0, 0) _ rfl HF.out Tryd.underlying43 rfl HC.out
end Go.Proofs.YtibbinenhmiclaaDoor

namespace Go.Proofs.YtibbinenhmiclaaDoor
open Go.RowKit

theorem ofInt_zero64 (u : Int) (h0 : -9223372036854775808 ≤ u) (h1 : u ≤ 9223372036854775807) : BitVec.ofInt 64 u = 0#64 ↔ u = 0 := by
  refine ⟨fun h => ?_, fun h => by subst h; rfl⟩
  have := congrArg BitVec.toNat h
  rw [BitVec.toNat_ofInt] at this
  simp at this
  omega
theorem ofInt_inj64 (u v : Int) (h0 : 0 ≤ u) (h1 : u ≤ 9223372036854775807) (g0 : 0 ≤ v) (g1 : v ≤ 9223372036854775807) : BitVec.ofInt 64 u = BitVec.ofInt 64 v ↔ u = v := by
  refine ⟨fun h => ?_, fun h => by subst h; rfl⟩
  have := congrArg BitVec.toNat h
  rw [BitVec.toNat_ofInt, BitVec.toNat_ofInt] at this
  omega
set_option maxRecDepth 100000 in
theorem wrap64_zero (b : BitVec 64) : IntKind.i64.wrap (b.toNat : Int) = 0 ↔ b = 0#64 := by
  have h := b.isLt
  rw [IntKind.wrap_i64]
  refine ⟨fun e => ?_, fun e => by rw [e]; decide⟩
  apply BitVec.eq_of_toNat_eq
  simp
  omega
theorem or64 (u v : Int) (h0 : -9223372036854775808 ≤ u) (h1 : u ≤ 9223372036854775807) (g0 : -9223372036854775808 ≤ v) (g1 : v ≤ 9223372036854775807) : bits .or .i64 u v = 0 ↔ u = 0 ∧ v = 0 := by
  have e : bits .or .i64 u v = IntKind.i64.wrap ((BitVec.ofInt 64 u ||| BitVec.ofInt 64 v).toNat : Int) := rfl
  rw [e, wrap64_zero, BitVec.or_eq_zero_iff, ofInt_zero64 u h0 h1, ofInt_zero64 v g0 g1]
theorem xor64 (u v : Int) (h0 : 0 ≤ u) (h1 : u ≤ 9223372036854775807) (g0 : 0 ≤ v) (g1 : v ≤ 9223372036854775807) : bits .xor .i64 u v = 0 ↔ u = v := by
  have e : bits .xor .i64 u v = IntKind.i64.wrap ((BitVec.ofInt 64 u ^^^ BitVec.ofInt 64 v).toNat : Int) := rfl
  rw [e, wrap64_zero, BitVec.xor_eq_zero_iff, ofInt_inj64 u v h0 h1 g0 g1]
theorem xor8 (u v : Int) (h0 : 0 ≤ u ∧ u ≤ 255) (g0 : 0 ≤ v ∧ v ≤ 255) : bits .xor .u8 u v = 0 ↔ u = v := by
  have e : bits .xor .u8 u v = IntKind.u8.wrap ((BitVec.ofInt 8 u ^^^ BitVec.ofInt 8 v).toNat : Int) := rfl
  have h := (BitVec.ofInt 8 u ^^^ BitVec.ofInt 8 v).isLt
  rw [e, IntKind.wrap_u8']
  constructor
  · intro h1
    have h2 : (BitVec.ofInt 8 u ^^^ BitVec.ofInt 8 v) = 0#8 := by
      apply BitVec.eq_of_toNat_eq
      show (BitVec.ofInt 8 u ^^^ BitVec.ofInt 8 v).toNat = 0
      omega
    have h3 := congrArg BitVec.toNat (BitVec.xor_eq_zero_iff.1 h2)
    rw [BitVec.toNat_ofInt, BitVec.toNat_ofInt] at h3
    omega
  · intro h1
    subst h1
    rw [BitVec.xor_self]
    rfl
/-- What the loop holds. -/
theorem take_eq {p q : List Int} {i : Nat} (hi : i < p.length) (hj : i < q.length) : p.take (i + 1) = q.take (i + 1) ↔ p.take i = q.take i ∧ p.getD i 0 = q.getD i 0 := by
  rw [take_succ_get hi, take_succ_get hj]
  constructor
  · intro h
    have := List.append_inj h (by rw [List.length_take, List.length_take]; omega)
    exact ⟨this.1, by simpa using this.2⟩
  · rintro ⟨h1, h2⟩
    rw [h1, h2]
theorem eq_take {p q : List Int} : p = q ↔ p.length = q.length ∧ p.take (min p.length q.length) = q.take (min p.length q.length) := by
  constructor
  · rintro rfl; exact ⟨rfl, rfl⟩
  · rintro ⟨h1, h2⟩
    rw [h1, Nat.min_self, List.take_length] at h2
    rw [List.take_of_length_le (by omega)] at h2
    exact h2
/-- One byte of what is picked. -/
theorem pick8 (b : Bool) (x y : Int) (hx : 0 ≤ x ∧ x ≤ 255) (hy : 0 ≤ y ∧ y ≤ 255) : bits .xor .u8 x (bits .and .u8 (if b then 255 else 0) (bits .xor .u8 x y)) = if b then y else x := by
  have e : ∀ (op : BinOp) (u v : Int) (f : BitVec 8 → BitVec 8 → BitVec 8), (∀ s t, bits op .u8 s t = IntKind.u8.wrap ((f (BitVec.ofInt 8 s) (BitVec.ofInt 8 t)).toNat : Int)) → BitVec.ofInt 8 (bits op .u8 u v) = f (BitVec.ofInt 8 u) (BitVec.ofInt 8 v) := by
    intro op u v f h
    rw [h, IntKind.wrap_u8']
    have hl := (f (BitVec.ofInt 8 u) (BitVec.ofInt 8 v)).isLt
    apply BitVec.eq_of_toNat_eq
    rw [BitVec.toNat_ofInt]
    omega
  have hz : ∀ u v : Int, 0 ≤ u ∧ u ≤ 255 → 0 ≤ v ∧ v ≤ 255 → BitVec.ofInt 8 u = BitVec.ofInt 8 v → u = v := by
    intro u v hu hv h
    have := congrArg BitVec.toNat h
    rw [BitVec.toNat_ofInt, BitVec.toNat_ofInt] at this
    omega
  refine hz _ _ (bits_u8r _ _ _) (by cases b <;> assumption) ?_
  rw [e .xor _ _ (· ^^^ ·) (fun _ _ => rfl), e .and _ _ (· &&& ·) (fun _ _ => rfl), e .xor _ _ (· ^^^ ·) (fun _ _ => rfl)]
  cases b
  · show BitVec.ofInt 8 x ^^^ (0#8 &&& (BitVec.ofInt 8 x ^^^ BitVec.ofInt 8 y)) = BitVec.ofInt 8 x
    rw [BitVec.zero_and, BitVec.xor_zero]
  · show BitVec.ofInt 8 x ^^^ (BitVec.allOnes 8 &&& (BitVec.ofInt 8 x ^^^ BitVec.ofInt 8 y)) = BitVec.ofInt 8 y
    rw [BitVec.allOnes_and, ← BitVec.xor_assoc, BitVec.xor_self, BitVec.zero_xor]
end Go.Proofs.YtibbinenhmiclaaDoor

namespace Go.Proofs.YtibbinenhmiclaaDoor
open Go.RowKit

/-- What stands behind so many rounds. -/
def pk (t x : List Int) (i : Nat) : List Int := t.take i ++ x.drop i
theorem pk_len (t x : List Int) (i : Nat) (ht : t.length = 16) (hx : x.length = 16) (h : i ≤ 16) : (pk t x i).length = 16 := by simp [pk]; omega
theorem pk_zero (t x : List Int) : pk t x 0 = x := by simp [pk]
theorem pk_full (t x : List Int) (ht : t.length = 16) (hx : x.length = 16) : pk t x 16 = t := by
  unfold pk
  rw [List.take_of_length_le (by omega), List.drop_of_length_le (by omega), List.append_nil]
theorem pk_get (t x : List Int) (i : Nat) (ht : t.length = 16) (_hx : x.length = 16) (h : i < 16) : (pk t x i).getD i 0 = x.getD i 0 := by
  unfold pk
  rw [List.getD_eq_getElem?_getD, List.getD_eq_getElem?_getD, List.getElem?_append_right (by rw [List.length_take]; omega), List.length_take, List.getElem?_drop]
  congr 2
  omega
theorem pk_set (t x : List Int) (i : Nat) (ht : t.length = 16) (hx : x.length = 16) (h : i < 16) : (pk t x i).set i (t.getD i 0) = pk t x (i + 1) := by
  unfold pk
  have e : (t.take i).length = i := by rw [List.length_take]; omega
  rw [List.set_append_right _ _ (by omega), e, Nat.sub_self, take_succ_get (by omega), List.append_assoc, List.drop_eq_getElem_cons (i := i) (by omega), List.set_cons_zero]
  rfl
end Go.Proofs.YtibbinenhmiclaaDoor
