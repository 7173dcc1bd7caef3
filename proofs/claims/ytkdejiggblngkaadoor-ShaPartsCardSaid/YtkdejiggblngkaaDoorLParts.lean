/-
  The law ShaParts, walked.
-/
import Derived.Test.YtkdejiggblngkaaDoorLSums
import Derived.Test.YtkdejiggblngkaaDoorNils
import Derived.Test.YtkdejiggblngkaaDoorParts
import Derived.Laws.OwnMore
namespace Go.Proofs.YtkdejiggblngkaaDoor
open Go.RowKit

theorem row_upto {w w' : World} {base B n : Nat} {e : TypeId} {v : Value} {xs : List Value} (h : w.ownsRow base e 1 v n xs) (hlt : ∀ g, v.ownBlock = some g → g < B) (hb : Below B w w') : w'.ownsRow base e 1 v n xs := by
  obtain ⟨h1, h2⟩ := h
  refine ⟨h1, ?_⟩
  rcases h2 with h2 | ⟨g, cap, cur, e1, hg, hh, r⟩
  · exact .inl h2
  · subst e1
    exact .inr ⟨g, cap, cur, rfl, hg, (hb.block g (hlt g rfl)).trans hh, r⟩
theorem HashIs.upto {w w' : World} {b B : Nat} {l : List Int} (h : HashIs w b l) (hb : Below B w w') (hB : b < B) : HashIs w' b l := by
  obtain ⟨rest, h1, h2, h3, h4⟩ := h
  exact ⟨rest, h1, h2, h3, h4.upto hb hB⟩
theorem bits_u8 (op : BinOp) (x y : Int) : 0 ≤ bits op .u8 x y ∧ bits op .u8 x y ≤ 255 := by
  unfold bits
  simp only [IntKind.wrap_u8']
  omega
/-- append of bytes to an empty row that the call made: what is handed back isn't nil. -/
theorem wpList_append_made {w : World} {ops : Array Oper} {rest : List Oper} {o : Oper} {a : Act} {Q : Exit → Act → World → Prop} (hgd : o.guard = none) (s x : Operand)
    (ho : o.op = .call { callee := .builtin .append, args := #[s, x], argTypes := #[22, 22] })
    (base g0 : Nat) (hs : a.eval s = .slice (some ⟨g0, 0, none⟩) 0 0) (hown : w.ownsRow base 5 1 (.slice (some ⟨g0, 0, none⟩) 0 0) 0 [])
    (M : Nat) (u : Value) (p : List Int) (hx : a.eval x = u) (hp : HoldsB w M u p) (h63 : p.length ≤ 140737488355328) (hbase : base ≤ w.heap.size)
    (h : ∀ g c w', w'.ownsRow base 5 1 (.slice (some ⟨g, 0, none⟩) p.length c) p.length (kv .u8 p) → w.grownBy w' (some g0) → wpList Tryd.prog ops Q rest (a.put o.dst (.slice (some ⟨g, 0, none⟩) p.length c)) w') : wpList Tryd.prog ops Q (o :: rest) a w := by
  obtain ⟨i0, hi, hz0, hz1, hz2⟩ := info_parts info5
  obtain ⟨ad, m, cap, rfl, hm⟩ := hp.slice
  cases ad with
  | none =>
    obtain ⟨a', cap', h1, h2, h3, h4, h5, h6, h7⟩ := hp
    simp only [Value.slice.injEq] at h1
    have hc := h4 h1.1.symm
    have hl : p = [] := List.length_eq_zero_iff.1 (by omega)
    subst hl
    have hx' : a.eval x = .slice none 0 0 := by rw [hx]; simp only [Value.slice.injEq, true_and]; exact ⟨by simpa using hm, by omega⟩
    exact wpList_append_own_none hgd s x 22 ho base 5 i0 1 Tryd.underlying22 hi _ 0 [] hs hown hx' (h g0 0 w hown ⟨rfl, rfl, rfl, Nat.le_refl _, fun _ _ _ => rfl⟩)
  | some ad =>
    refine wpList_append_own w hgd s x 22 ho base 5 i0 (.int .u8 0) 1 1 Tryd.underlying22 hi hz0 hz1 hz2 rfl (by decide) _ 0 [] hs hown ad m cap (bv p) hx (by rw [bv_len]; omega) hp.news (bv_one _) (by unfold maxLen; omega) (by omega) hbase fun v' w' h1 h2 h3 => ?_
    rw [hm, Nat.zero_add, List.nil_append] at h1
    rcases h1.2 with ⟨rfl, hn⟩ | ⟨g, c, cur, rfl, _⟩
    · exact absurd (h3.1 rfl).1 (by simp)
    · exact h g c w' h1 h2
set_option maxRecDepth 100000 in
set_option maxHeartbeats 2000000 in
theorem shaParts_walk (a0 : Option Addr) (len0 cap0 : Nat) (zs : List (List Int)) (w : World) (w0 : HoldsP w (.slice a0 len0 cap0) zs) (hk : KonIs w) :
    Calls Tryd.prog 5 #[.slice a0 len0 cap0] w fun e w' => e = .returned (.bool true) ∧ Below w.heap.size w w' := by
  have hl : zs.length = len0 := by obtain ⟨a', n', c', e, hn⟩ := w0.slice; simp only [Value.slice.injEq] at e; omega
  have hlm : len0 ≤ maxLen := by obtain ⟨_, _, _, h2, _⟩ := w0; omega
  unfold maxLen at hlm
  have HL := Kp.mk hl
  have HK := Kp.mk hk
  have HP := Kp.mk w0
  have HA0 := Kp.mk hk.pos
  clear hl hk w0
  go_enter Tryd.func5, Tryd.ntmps5
  go_wp2_with fail
  refine (new_any w).mono ?_
  rintro r w1 ⟨rfl, h1, h2⟩
  obtain ⟨A, hA⟩ : ∃ A, A = w.heap.size := ⟨_, rfl⟩
  rw [← hA] at h1 h2 HA0 ⊢
  have HA := Kp.mk hA
  have H1 := Kp.mk h1
  have H2 := Kp.mk h2
  clear h1 h2 hA
  go_wp2_with fail
  go_loopw [4, 13] (fun s4 c wr => ∃ (i n : Nat) (l : List Int) (a4 : Option Addr) (c4 : Nat), i ≤ len0 ∧ i ≤ 20 ∧ n ≤ 500 * i ∧ c = .int .i64 i ∧ s4 = .slice a4 n c4 ∧ Kp (n = l.length) ∧ Bytes l ∧ wr.ownsRow (A + 1) 5 1 (.slice a4 n c4) n (kv .u8 l) ∧ HashIs wr A l ∧ Below A w wr) (fun _ c _ => len0 - (intOf c).toNat)
  case atStart => exact ⟨0, 0, [], none, 0, by omega, by omega, by omega, rfl, rfl, ⟨rfl⟩, Bytes.nil, World.ownsRow_nil _ _ _ _, H1.out, H2.out⟩
  case round =>
    obtain ⟨i, n, l, a4, c4, hi, hi20, hn, rfl, rfl, HN, hb, ho, hh, hbe⟩ := hrel
    have G1 := Kp.mk hb
    have G2 := Kp.mk ho
    have G3 := Kp.mk hh
    have G4 := Kp.mk hbe
    clear hb ho hh hbe H1 H2
    by_cases hlt : i < len0
    · obtain ⟨b, off, a1, n1, c1, rfl, hbw, hcell, hp⟩ : ∃ b off a1 n1 c1, a0 = some ⟨b, off, none⟩ ∧ b < w.heap.size ∧ w.cell? ⟨b, off + i, none⟩ = some (.slice a1 n1 c1) ∧ HoldsB w w.heap.size (.slice a1 n1 c1) (zs.getD i []) := by
        obtain ⟨a', cap', e, _, h3⟩ := HP.out
        simp only [Value.slice.injEq] at e
        obtain ⟨rfl, -, -⟩ := e
        obtain ⟨b, off, a1, n1, c1, e1, e2, e3, e4⟩ := h3 i (by rw [HL.out]; exact hlt)
        exact ⟨b, off, a1, n1, c1, e1, e2, e3, e4⟩
      have hc : wr.cell? ⟨b, off + i, none⟩ = some (.slice a1 n1 c1) := (World.cell?_of_block (w := w) (a := ⟨b, off + i, none⟩) (G4.out.block b (by rw [HA.out]; exact hbw))).trans hcell
      have HPp := Kp.mk hp
      have hnl : n1 = (zs.getD i []).length := by obtain ⟨a', n', c', e, hn⟩ := hp.slice; simp only [Value.slice.injEq] at e; omega
      have HN1 := Kp.mk hnl
      clear hcell hbw hp hnl
      generalize zs.getD i [] = p at *
      rcases (show 20 ≤ i ∨ (i < 20 ∧ 500 < n1) ∨ (i < 20 ∧ n1 ≤ 500) by omega) with hE | ⟨hE, hE2⟩ | ⟨hR, hR2⟩
      case' inr.inr =>
        go_wp2_with (at_builtin; refine wpList_append_made rfl _ _ rfl wr.heap.size wr.heap.size rfl (World.ownsRow_made wr #[] 0 (Nat.le_refl _) (by unfold maxLen; omega) rfl) _ _ p rfl ((HPp.out.keep (by have h := G4.out; rw [HA.out] at h; exact h)).alloc _) ?c0 ?c1 ?_)
        case c0 => have := HN1.out; omega
        case c1 => simp
        intro g c5 w2 ho2 hg2
        obtain ⟨B, hB⟩ : ∃ B, B = wr.heap.size := ⟨_, rfl⟩
        rw [← hB] at ho2 hg2
        have hAB : A < B := by rw [hB]; exact G3.out.lt
        have hbel : Below B wr w2 := by
          rw [hB]
          exact below_row_grown (more (Below.refl _ _) (.cells #[] 5)) (by simp) (World.ownsRow_made (e := 5) (size := 1) wr #[] 0 (Nat.le_refl _) (by unfold maxLen; omega) rfl) (by rw [← hB]; exact hg2)
        have hbA : Below A w w2 := G4.out.trans (hbel.mono (Nat.le_of_lt hAB))
        have hkeep : Below w.heap.size w w2 := by rw [← HA.out]; exact hbA
        have hHX : HoldsX w2 A (.slice (some ⟨g, 0, none⟩) p.length c5) p := by
          refine ⟨HoldsB.ofRow HPp.out.bytes ho2, ?_⟩
          intro x k c he h0
          simp only [Value.slice.injEq, Option.some.injEq] at he
          have h4 := (ho2.lt g rfl).1
          rw [← he.1]
          show g ≠ A
          omega
        rw [← HN1.out] at ho2 hHX ⊢
        have hgB := (ho2.lt g rfl).1
        have HX := Kp.mk hHX
        have HK2 := Kp.mk (HK.out.keep hkeep)
        have HI2 := Kp.mk (G3.out.upto hbel (by exact hAB))
        have HA2 := Kp.mk (row_upto G2.out (fun g hg => by rw [hB]; exact (G2.out.lt g hg).2) hbel)
        have HGa : Kp (∀ g, (Value.slice a4 n c4).ownBlock = some g → g < B) := ⟨fun g hg => by rw [hB]; exact (G2.out.lt g hg).2⟩
        have HO2 := Kp.mk ho2
        have HB2 := Kp.mk hbA
        have HAB := Kp.mk hAB
        have HGB := Kp.mk hgB
        have hb500 : n1 ≤ 500 := hR2
        have hbn : n ≤ 10000 := by omega
        clear ho2 hg2 hbel hbA hkeep hHX hgB hAB hB G2 G3 G4
        go_wp2_with fail
        refine (write_any A l p _ w2 HK2.out (by have := HA0.out; omega) HI2.out HX.out (by rw [← HN.out, ← HN1.out]; omega)).mono ?_
        rintro r w3 ⟨rfl, h3⟩
        obtain ⟨rest', q1, q2, q3, hT⟩ := h3
        have HI3 : Kp (HashIs w3 A (l ++ p)) := ⟨⟨rest', q1, q2, q3, hT.blk⟩⟩
        have HO3 := Kp.mk (ownsRow_turn HO2.out hT HAB.out)
        have HA3 := Kp.mk (ownsRow_turn HA2.out hT (Nat.lt_succ_self A))
        have HB3 : Kp (Below A w w3) := ⟨HB2.out.trans (hT.below (Nat.le_refl _) (by have := HB2.out.size; rw [← HA.out] at this; exact this))⟩
        have HS3 : Kp (B ≤ w3.heap.size) := ⟨by have h4 := (HO3.out.lt g rfl).2; have := HGB.out; omega⟩
        clear q1 q2 q3 hT HO2 HI2 HA2 HB2 HX HK2
        go_wp2_with fail
        go_loopw [33] (fun c wq => ∃ (j : Nat) (ys : List Int), j ≤ n1 ∧ c = .int .i64 j ∧ Kp (ys.length = n1) ∧ Bytes ys ∧ wq.ownsRow B 5 1 (.slice (some ⟨g, 0, none⟩) n1 c5) n1 (kv .u8 ys) ∧ Below B w3 wq) (fun c _ => n1 - (intOf c).toNat)
        case atStart => exact ⟨0, p, by omega, rfl, ⟨HN1.out.symm⟩, HPp.out.bytes, HO3.out, Below.refl _ _⟩
        case round =>
          obtain ⟨j, ys, hj, rfl, HY, hyb, hyo, hyw⟩ := hrel
          have F1 := Kp.mk hyb
          have F2 := Kp.mk hyo
          have F3 := Kp.mk hyw
          clear hyb hyo hyw
          by_cases hlj : j < n1
          · have cw : wr.cell? ⟨g, j, none⟩ = some (.int .u8 (ys.getD j 0)) := by
              rw [F2.out.cellAt j (by omega), List.getElem?_map, List.getElem?_eq_getElem (by rw [HY.out]; exact hlj), List.getD_eq_getElem?_getD, List.getElem?_eq_getElem (by rw [HY.out]; exact hlj)]
              rfl
            have fw := F2.out.frozenAt j
            generalize ys.getD j 0 = y at *
            go_wp2_with fail
            refine ⟨⟨j + 1, ys.set j (bits .xor .u8 y 255), by omega, by go_num, ⟨by rw [List.length_set]; exact HY.out⟩, ?_, ?_, F3.out.setCell HGB.out _⟩, by simp [intOf]; omega⟩
            rotate_left
            · have h := (F2.out.stored j (.int .u8 (bits .xor .u8 y 255))).1
              rw [← List.map_set] at h
              exact h
            · intro z hz
              rcases List.mem_or_eq_of_mem_set hz with h | h
              · exact F1.out z h
              · rw [h]; exact bits_u8 _ _ _
          · have hge : (n1 : Int) ≤ j := by omega
            have HI4 := Kp.mk (HI3.out.upto F3.out HAB.out)
            have HA4 := Kp.mk (row_upto HA3.out HGa.out F3.out)
            have HB4 : Kp (Below A w wr) := ⟨HB3.out.trans (F3.out.mono (Nat.le_of_lt HAB.out))⟩
            have HK4 : Kp (KonIs wr) := ⟨HK.out.keep (by rw [← HA.out]; exact HB4.out)⟩
            have HP4 : Kp (HoldsB wr wr.heap.size (.slice a1 n1 c1) p) := ⟨(HPp.out.keep (by rw [← HA.out]; exact HB4.out)).mono (by have := HB4.out.size; exact this)⟩
            clear hlj hj F2 F1 HY
            go_wp2_with (at_builtin; refine wpList_append_holds rfl _ _ rfl (A + 1) _ _ _ rfl HA4.out _ _ p rfl HP4.out ?d0 ?d1 ?_)
            case d0 => have := HN1.out; omega
            case d1 => have := HI4.out.lt; omega
            intro v6 w6 ho6 hg6
            obtain ⟨N6, hN6⟩ : ∃ N6, N6 = n + n1 := ⟨_, rfl⟩
            rw [← HN1.out, ← hN6] at ho6
            have hll : N6 = (l ++ p).length := by rw [List.length_append, hN6, ← HN.out, ← HN1.out]
            obtain ⟨a6, c6, rfl⟩ := row_slice ho6
            have hb6 : Below (A + 1) wr w6 := below_row_grown (Below.refl _ _) (by have := HI4.out.lt; omega) HA4.out hg6
            have ho7 : w6.ownsRow (A + 1) 5 1 (.slice a6 N6 c6) N6 (kv .u8 (l ++ p)) := by
              have e : kv .u8 (l ++ p) = kv .u8 l ++ bv p := by simp
              rw [e]
              exact ho6
            have HbL := Kp.mk (G1.out.append HPp.out.bytes)
            have HO7 := Kp.mk ho7
            have HI7 := Kp.mk (HI4.out.upto hb6 (Nat.lt_succ_self A))
            have HB7 : Kp (Below A w w6) := ⟨HB4.out.trans (hb6.mono (Nat.le_succ A))⟩
            have HK7 : Kp (KonIs w6) := ⟨HK.out.keep (by rw [← HA.out]; exact HB7.out)⟩
            have HLL := Kp.mk hll
            have hN7 : N6 ≤ 500 * (i + 1) := by omega
            have HH7 : Kp (HoldsB w6 w6.heap.size (.slice a6 N6 c6) (l ++ p)) := ⟨HoldsB.ofRow HbL.out (by rw [hll] at ho7; rw [hll]; exact ho7)⟩
            have HS7 : Kp (A ≤ w6.heap.size) := ⟨by have := HI7.out.lt; omega⟩
            have hN20 : N6 ≤ 10000 := by omega
            clear ho6 hg6 hb6 ho7 hll hN6 HI4 HA4 HB4 HK4 HP4 HI3 HO3 HA3 HB3 HS3 F3
            generalize l ++ p = l2 at *
            go_wp2_with fail
            refine (hsum_any A l2 w6 HK7.out HA0.out HI7.out (by rw [← HLL.out]; omega)).mono ?_
            rintro r w8 ⟨rfl, h8⟩
            have HB8 : Kp (Below A w w8) := ⟨HB7.out.trans (h8.mono HS7.out)⟩
            have HO8 := Kp.mk (ownsRow_below HO7.out h8)
            have HI8 := Kp.mk (HI7.out.keep h8)
            have HH8 := Kp.mk ((HH7.out.keep h8).mono h8.size)
            have HS8 : Kp (A ≤ w8.heap.size) := ⟨Nat.le_trans HS7.out h8.size⟩
            clear h8 HO7 HI7 HH7 HB7
            go_wp2_with fail
            refine (rsum_any _ _ l2 w8 HH8.out (by rw [← HLL.out]; omega)).mono ?_
            rintro r w9 ⟨rfl, h9⟩
            have HB9 : Kp (Below A w w9) := ⟨HB8.out.trans (h9.mono HS8.out)⟩
            have HO9 := Kp.mk (ownsRow_below HO8.out h9)
            have HI9 := Kp.mk (HI8.out.keep h9)
            have hq := fun w => neq25 (digest_bytes l2) (digest_len l2) w
            have hg := neg25
            clear h9 HO8 HI8 HH8 HB8
            generalize digest l2 = d at *
            go_wp2_with fail
            clear hq hg
            refine (hblocks_any A l2 w9 HI9.out (by rw [← HLL.out]; omega)).mono ?_
            rintro r wx ⟨rfl, rfl⟩
            rw [← HLL.out]
            go_wp2_with fail
            refine (rblocks_any N6 wx (by omega)).mono ?_
            rintro r wy ⟨rfl, rfl⟩
            rw [blkI_nat]
            go_wp2_with fail
            refine ⟨⟨i + 1, N6, l2, a6, c6, by omega, by omega, hN7, by go_num, rfl, HLL, HbL.out, HO9.out, HI9.out, HB9.out⟩, by simp [intOf]; omega⟩
      case' inl =>
        have hE0 : 20 ≤ (i : Int) := by omega
        clear hE
      case' inr.inl =>
        have hE0 : (i : Int) < 20 := by omega
        have hE1 : 500 < (n1 : Int) := by omega
        clear hE hE2
      all_goals
        have HKr : Kp (KonIs wr) := ⟨HK.out.keep (by rw [← HA.out]; exact G4.out)⟩
        have HBr := G4
        have HSr : Kp (A ≤ wr.heap.size) := ⟨by have := G3.out.lt; omega⟩
        go_wp2_with fail
        refine (write_nil _ _).mono ?_
        rintro r wt ⟨rfl, rfl⟩
        go_wp2_with fail
        refine (awake4 wr HKr.out).mono ?_
        rintro r ua ⟨rfl, u1⟩
        have U1 := Kp.mk u1
        clear u1
        go_wp2_with fail
        refine (new_any ua).mono ?_
        rintro r ub ⟨rfl, u2, u3⟩
        have U2 := Kp.mk u2
        have U3 : Kp (Below wr.heap.size wr ub) := ⟨U1.out.trans (u3.mono U1.out.size)⟩
        have U4 : Kp (0 < ua.heap.size) := ⟨by have h1 := U1.out.size; have h2 := HKr.out.pos; omega⟩
        clear u2 u3
        go_wp2_with fail
        refine (hsum_any ua.heap.size [] ub (HKr.out.keep U3.out) U4.out U2.out (by simp)).mono ?_
        rintro r uc ⟨rfl, u4⟩
        have U5 : Kp (Below wr.heap.size wr uc) := ⟨U3.out.trans (u4.mono U3.out.size)⟩
        clear u4
        go_wp2_with fail
        refine (rsum_any uc.heap.size (.slice none 0 0) [] uc (HoldsB.nil _ _) (by simp)).mono ?_
        rintro r ud ⟨rfl, u5⟩
        have U6 : Kp (Below wr.heap.size wr ud) := ⟨U5.out.trans (u5.mono U5.out.size)⟩
        have hq := fun w => eql25 (digest_bytes []) (digest_len []) w
        have hg := eqg25
        clear u5
        generalize digest [] = d at *
        go_wp2_with fail
        clear hq hg
        refine (sum_nil ud).mono ?_
        rintro r ue ⟨rfl, u6⟩
        have U7 : Kp (Below wr.heap.size wr ue) := ⟨U6.out.trans (u6.mono U6.out.size)⟩
        have hq := eqz25
        clear u6
        go_wp2_with fail
        refine (blocks_nil _).mono ?_
        rintro r uf ⟨rfl, rfl⟩
        go_wp2_with fail
        go_ret
        exact ⟨rfl, by rw [← HA.out]; exact HBr.out.trans (U7.out.mono HSr.out)⟩
    · have hge : (len0 : Int) ≤ i := by omega
      have HKr : Kp (KonIs wr) := ⟨HK.out.keep (by rw [← HA.out]; exact G4.out)⟩
      have HBr := G4
      have HSr : Kp (A ≤ wr.heap.size) := ⟨by have := G3.out.lt; omega⟩
      clear hlt hi
      go_wp2_with fail
      refine (write_nil _ _).mono ?_
      rintro r wt ⟨rfl, rfl⟩
      go_wp2_with fail
      refine (awake4 wr HKr.out).mono ?_
      rintro r ua ⟨rfl, u1⟩
      have U1 := Kp.mk u1
      clear u1
      go_wp2_with fail
      refine (new_any ua).mono ?_
      rintro r ub ⟨rfl, u2, u3⟩
      have U2 := Kp.mk u2
      have U3 : Kp (Below wr.heap.size wr ub) := ⟨U1.out.trans (u3.mono U1.out.size)⟩
      have U4 : Kp (0 < ua.heap.size) := ⟨by have h1 := U1.out.size; have h2 := HKr.out.pos; omega⟩
      clear u2 u3
      go_wp2_with fail
      refine (hsum_any ua.heap.size [] ub (HKr.out.keep U3.out) U4.out U2.out (by simp)).mono ?_
      rintro r uc ⟨rfl, u4⟩
      have U5 : Kp (Below wr.heap.size wr uc) := ⟨U3.out.trans (u4.mono U3.out.size)⟩
      clear u4
      go_wp2_with fail
      refine (rsum_any uc.heap.size (.slice none 0 0) [] uc (HoldsB.nil _ _) (by simp)).mono ?_
      rintro r ud ⟨rfl, u5⟩
      have U6 : Kp (Below wr.heap.size wr ud) := ⟨U5.out.trans (u5.mono U5.out.size)⟩
      have hq := fun w => eql25 (digest_bytes []) (digest_len []) w
      have hg := eqg25
      clear u5
      generalize digest [] = d at *
      go_wp2_with fail
      clear hq hg
      refine (sum_nil ud).mono ?_
      rintro r ue ⟨rfl, u6⟩
      have U7 : Kp (Below wr.heap.size wr ue) := ⟨U6.out.trans (u6.mono U6.out.size)⟩
      have hq := eqz25
      clear u6
      go_wp2_with fail
      refine (blocks_nil _).mono ?_
      rintro r uf ⟨rfl, rfl⟩
      go_wp2_with fail
      go_ret
      exact ⟨rfl, by rw [← HA.out]; exact HBr.out.trans (U7.out.mono HSr.out)⟩
end Go.Proofs.YtkdejiggblngkaaDoor
