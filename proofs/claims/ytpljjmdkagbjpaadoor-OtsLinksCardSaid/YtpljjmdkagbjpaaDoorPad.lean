/-
  The document's Pad.
-/
import Derived.Test.YtpljjmdkagbjpaaDoorEnd
namespace Go.Proofs.YtpljjmdkagbjpaaDoor
open Go.RowKit

set_option maxRecDepth 100000 in
/-- append of bytes that stand somewhere, to a row of the call's own. -/
theorem wpList_append_holds {w : World} {ops : Array Oper} {rest : List Oper} {o : Oper} {a : Act} {Q : Exit → Act → World → Prop} (hgd : o.guard = none) (s x : Operand)
    (ho : o.op = .call { callee := .builtin .append, args := #[s, x], argTypes := #[32, 32] })
    (base : Nat) (v : Value) (n : Nat) (xs : List Value) (hs : a.eval s = v) (hown : w.ownsRow base 5 1 v n xs)
    (M : Nat) (u : Value) (p : List Int) (hx : a.eval x = u) (hp : HoldsB w M u p) (h63 : n + p.length ≤ 140737488355328) (hbase : base ≤ w.heap.size)
    (h : ∀ v' w', w'.ownsRow base 5 1 v' (n + p.length) (xs ++ bv p) → w.grownBy w' v.ownBlock → wpList Tryd.prog ops Q rest (a.put o.dst v') w') : wpList Tryd.prog ops Q (o :: rest) a w := by
  obtain ⟨i0, hi, hz0, hz1, hz2⟩ := info_parts info5
  obtain ⟨ad, m, cap, rfl, hm⟩ := hp.slice
  cases ad with
  | none =>
    obtain ⟨a', cap', h1, h2, h3, h4, h5, h6, h7⟩ := hp
    simp only [Value.slice.injEq] at h1
    have hc := h4 h1.1.symm
    have hl : p = [] := List.length_eq_zero_iff.1 (by omega)
    subst hl
    have hx' : a.eval x = .slice none 0 0 := by rw [hx]; simp only [Value.slice.injEq, true_and]; exact ⟨by simpa using hm, by omega⟩
    exact wpList_append_own_none hgd s x 32 ho base 5 i0 1 Tryd.underlying32 hi v n xs hs hown hx' (h v w (by simpa using hown) ⟨rfl, rfl, rfl, Nat.le_refl _, fun _ _ _ => rfl⟩)
  | some ad =>
    refine wpList_append_own w hgd s x 32 ho base 5 i0 (.int .u8 0) 1 1 Tryd.underlying32 hi hz0 hz1 hz2 rfl (by decide) v n xs hs hown ad m cap (bv p) hx (by rw [bv_len]; omega) hp.news (bv_one _) (by unfold maxLen; omega) (by omega) hbase fun v' w' h1 h2 _ => ?_
    rw [hm] at h1
    exact h v' w' h1 h2
theorem row_slice {w : World} {base n : Nat} {v : Value} {xs : List Value} (h : w.ownsRow base 5 1 v n xs) : ∃ a c, v = .slice a n c := by
  rcases h.2 with ⟨rfl, hn⟩ | ⟨g, cap, cur, rfl, _⟩
  · subst hn; exact ⟨_, _, rfl⟩
  · exact ⟨_, _, rfl⟩
/-- One byte in a new block, as a slice. -/
theorem one_holds (w : World) (x : Int) (h : 0 ≤ x ∧ x ≤ 255) : HoldsB (w.alloc (.cells #[.int .u8 x] 5)) (w.alloc (.cells #[.int .u8 x] 5)).heap.size (.slice (some ⟨w.heap.size, 0, none⟩) 1 1) [x] :=
  HoldsB.ofRow2 (off := 0) (Blk.new w _) rfl (Nat.le_refl _) (by unfold maxLen; omega) (fun i hi => match i, hi with | 0, _ => rfl | i + 1, hi => absurd hi (by simp)) (fun y hy => by simp at hy; subst hy; exact h)
/-- What stands in the length's bytes behind j rounds. -/
def lowst (E : Int) (j : Nat) : List Int := List.replicate (8 - j) 0 ++ (be64 E).drop (8 - j)
theorem lowst_len (E : Int) (j : Nat) (_h : j ≤ 8) : (lowst E j).length = 8 := by simp [lowst, be64_len]
theorem lowst_zero (E : Int) : lowst E 0 = List.replicate 8 0 := by simp [lowst, be64]
theorem lowst_full (E : Int) : lowst E 8 = be64 E := by simp [lowst]
theorem lowst_set (E : Int) (j : Nat) (h : j < 8) : (lowst E j).set (7 - j) (E / 256 ^ j % 256) = lowst E (j + 1) := by
  match j, h with
  | 0, _ => exact (show [0, 0, 0, 0, 0, 0, 0, E / 256 ^ 0 % 256] = lowst E 1 from rfl)
  | 1, _ => rfl
  | 2, _ => rfl
  | 3, _ => rfl
  | 4, _ => rfl
  | 5, _ => rfl
  | 6, _ => rfl
  | 7, _ => rfl
theorem be64_bytes (E : Int) : Bytes (be64 E) := by
  intro x hx
  unfold be64 at hx
  obtain ⟨i, _, rfl⟩ := List.mem_map.1 hx
  omega
set_option maxRecDepth 100000 in
theorem slice74_all (b : Nat) (w : World) : (Instr.sliceAt 158 (.pointer (some ⟨b, 0, none⟩)) none none none).run Tryd.prog w = .ok (.slice (some ⟨b, 0, none⟩) 8 8) w := by
  have hl : Tryd.prog.arrayLen 158 = 8 := by kernel_rfl
  have he : Tryd.prog.elem 158 = 5 := by kernel_rfl
  rw [run_sliceAt_array_all (ht := Tryd.underlying158), hl, he, size5]
  rfl
theorem ownsRow_set {w : World} {base n size D i : Nat} {e : TypeId} {v x : Value} {xs : List Value} (h : w.ownsRow base e size v n xs) (hne : v.ownBlock ≠ some D) : (w.setCell ⟨D, i, none⟩ x).ownsRow base e size v n xs :=
  h.kept (row := some D) ⟨rfl, rfl, rfl, by simp [World.setCell], fun k _ hk => Below.heap_setCell _ _ _ _ (fun e => hk (by simp [e]))⟩ (Or.inr hne)
def sliceLen : Value → Nat
  | .slice _ n _ => n
  | _ => 0
abbrev pre (p : List Int) (k : Nat) : List Int := p ++ ([128] ++ List.replicate k 0)
theorem pre_len (p : List Int) (k : Nat) : (pre p k).length = p.length + 1 + k := by simp; omega
theorem pre_succ (p : List Int) (k : Nat) : pre p (k + 1) = pre p k ++ [0] := by
  unfold pre
  rw [List.replicate_succ']
  simp
theorem pre_pad (p : List Int) : pre p (zeros p.length) ++ be64 (8 * (p.length : Int) % 18446744073709551616) = pad p := by
  unfold pre pad tail
  simp
set_option maxRecDepth 100000 in
set_option maxHeartbeats 2000000 in
theorem pad_any (M : Nat) (v : Value) (p : List Int) (w : World) (h : HoldsB w M v p) (hlen : p.length ≤ 140737488351400) :
    Calls Tryd.prog 90 #[v] w fun r w' => ∃ v', r = .returned v' ∧ w'.ownsRow w.heap.size 5 1 v' (pad p).length (bv (pad p)) ∧ Below w.heap.size w w' := by
  have H := Kp.mk h
  obtain ⟨a, len, cap, rfl, hn⟩ := h.slice
  have HN := Kp.mk hn
  have hl : len ≤ 140737488351400 := by omega
  clear h hn hlen
  go_enter Tryd.func90, Tryd.ntmps90
  go_wp2_with (at_builtin; refine wpList_append_holds rfl _ _ rfl w.heap.size _ _ _ rfl (World.ownsRow_made w #[] 0 (Nat.le_refl _) (by unfold maxLen; omega) rfl) M _ p rfl (H.out.alloc _) ?c0 ?c1 ?_)
  case c0 => have := HN.out; omega
  case c1 => simp
  intro v1 w1 ho hg
  have hbel : Below w.heap.size w w1 := below_row_grown (more (Below.refl _ _) (.cells #[] 5)) (by simp) (World.ownsRow_made (e := 5) (size := 1) w #[] 0 (Nat.le_refl _) (by unfold maxLen; omega) rfl) hg
  have ho1 : w1.ownsRow w.heap.size 5 1 v1 len (bv p) := by
    rw [HN.out]
    simpa using ho
  obtain ⟨a1, c1, rfl⟩ := row_slice ho1
  have HO1 := Kp.mk ho1
  have HB1 := Kp.mk hbel
  clear ho hg hbel ho1
  go_wp2_with (at_builtin; refine wpList_append_holds rfl _ _ rfl w.heap.size _ _ _ rfl (HO1.out.alloc _) _ _ [128] rfl (one_holds w1 128 (by omega)) ?d0 ?d1 ?_)
  case d0 => simp; omega
  case d1 => have := HB1.out.size; simp; omega
  intro v2 w2 ho hg
  have hbel : Below w.heap.size w w2 := below_row_grown (HB1.out.alloc HB1.out.size _) (by have := HB1.out.size; simp; omega) (HO1.out.alloc _) hg
  obtain ⟨L0, hL0⟩ : ∃ L0, L0 = len + 1 := ⟨_, rfl⟩
  have ho2 : w2.ownsRow w.heap.size 5 1 v2 L0 (bv (pre p 0)) := by
    have e : bv (pre p 0) = bv p ++ bv [128] := by simp
    rw [e, hL0]
    simpa using ho
  obtain ⟨a2, c2, rfl⟩ := row_slice ho2
  have HO2 := Kp.mk ho2
  have HB2 := Kp.mk hbel
  clear ho hg hbel ho2 HO1 HB1
  obtain ⟨z, hz⟩ : ∃ z, z = zeros len := ⟨_, rfl⟩
  have hz63 : z ≤ 63 := by rw [hz]; unfold zeros; omega
  have hzm : (L0 + z) % 64 = 56 := by rw [hz]; unfold zeros; omega
  have hzl : ∀ k, k < z → (L0 + k) % 64 ≠ 56 := by rw [hz]; unfold zeros; omega
  have HL0 := Kp.mk hL0
  have hlb : L0 ≤ 140737488351401 := by omega
  have HZ := Kp.mk hz
  have HZM := Kp.mk hzm
  have HZL := Kp.mk hzl
  clear hz hzm hzl hL0
  go_wp2_with fail
  go_loopw [3] (fun s3 wr => ∃ (k : Nat) (a3 : Option Addr) (c3 : Nat), k ≤ z ∧ s3 = .slice a3 (L0 + k) c3 ∧ Kp (wr.ownsRow w.heap.size 5 1 (.slice a3 (L0 + k) c3) (L0 + k) (bv (pre p k))) ∧ Below w.heap.size w wr) (fun s3 _ => L0 + z - sliceLen s3)
  case atStart => exact ⟨0, a2, c2, by omega, rfl, HO2, HB2.out⟩
  case round =>
    obtain ⟨k, a3, c3, hk, rfl, HO3, hbe⟩ := hrel
    have HB3 := Kp.mk hbe
    clear hbe HO2 HB2
    obtain ⟨L, hL⟩ : ∃ L, L = L0 + k := ⟨_, rfl⟩
    rw [← hL] at HO3
    rw [← hL]
    by_cases hlt : k < z
    · have hne := HZL.out k hlt
      rw [← hL] at hne
      have t1 : ((L : Int) % 64 == 56) = false := by rw [beq_eq_false_iff_ne]; omega
      have t2 : ((L : Int) % 64 != 56) = true := by rw [bne_iff_ne]; omega
      have hb : L ≤ 140737488352000 := by omega
      have HLe := Kp.mk hL
      clear hL hne
      go_wp2_with (at_builtin; refine wpList_append_holds rfl _ _ rfl w.heap.size _ _ _ rfl (HO3.out.alloc _) _ _ [0] rfl (one_holds wr 0 (by omega)) ?e0 ?e1 ?_)
      case e0 => simp; omega
      case e1 => have := HB3.out.size; simp; omega
      intro v4 w4 ho hg
      have hbel : Below w.heap.size w w4 := below_row_grown (HB3.out.alloc HB3.out.size _) (by have := HB3.out.size; simp; omega) (HO3.out.alloc _) hg
      have ho4 : w4.ownsRow w.heap.size 5 1 v4 (L0 + (k + 1)) (bv (pre p (k + 1))) := by
        rw [pre_succ, ← Nat.add_assoc, ← HLe.out]
        simpa using ho
      obtain ⟨a4, c4, rfl⟩ := row_slice ho4
      have HO4 := Kp.mk ho4
      have HB4 := Kp.mk hbel
      clear ho hg hbel ho4
      go_wp2_with fail
      refine ⟨⟨k + 1, a4, c4, by omega, rfl, HO4, HB4.out⟩, ?_⟩
      rw [HLe.out]
      simp [sliceLen]
      omega
    · have HK : Kp (k = z) := ⟨by omega⟩
      have hmm := HZM.out
      rw [← HK.out, ← hL] at hmm
      have t1 : ((L : Int) % 64 == 56) = true := by rw [beq_iff_eq]; omega
      have t2 : ((L : Int) % 64 != 56) = false := by rw [bne_eq_false_iff_eq]; omega
      have hb : L ≤ 140737488352000 := by omega
      have HLe := Kp.mk hL
      have HO5 : Kp (wr.ownsRow w.heap.size 5 1 (.slice a3 L c3) L (bv (pre p z))) := by
        have h := HO3.out
        rw [HK.out] at h
        exact ⟨h⟩
      clear hL hmm hlt hk HO3
      obtain ⟨D, hD⟩ : ∃ D, D = wr.heap.size := ⟨_, rfl⟩
      have HD := Kp.mk hD
      clear hD
      go_wp2_with fail
      rw [← HD.out]
      generalize hE : (len : Int) * 8 = E
      have e0 : 0 ≤ E := by omega
      have e1 : E ≤ 9000000000000000 := by omega
      have HE : Kp (8 * (p.length : Int) % 18446744073709551616 = E) := ⟨by have := HN.out; omega⟩
      clear hE t1 t2
      refine wp_world (fun W => Row W D 158 .u8 (lowst E 0) ∧ W.ownsRow w.heap.size 5 1 (.slice a3 L c3) L (bv (pre p z)) ∧ Below w.heap.size w W) ⟨by rw [lowst_zero]; exact Blk.newAt _ HD.out, HO5.out.alloc _, HB3.out.alloc HB3.out.size _⟩ ?_
      rintro w5 ⟨h1, h2, h3⟩
      have HDB : Kp (w.heap.size ≤ D ∧ (∀ g, a3 = some g → g.block ≠ D)) := ⟨⟨by rw [HD.out]; exact HB3.out.size, fun g hg => by
        subst hg
        have := (HO5.out.lt g.block (by simp [Value.ownBlock])).2
        rw [HD.out]
        omega⟩⟩
      have F1 := Kp.mk h1
      have F2 := Kp.mk h2
      have F3 := Kp.mk h3
      clear h1 h2 h3 HO5 HD HB3
      go_loopw [4, 6] (fun q c wr => ∃ j : Nat, j ≤ 8 ∧ c = .int .i64 ((7 : Int) - j) ∧ q = .int .u64 (E / 256 ^ j) ∧ Row wr D 158 .u8 (lowst E j) ∧ wr.ownsRow w.heap.size 5 1 (.slice a3 L c3) L (bv (pre p z)) ∧ Below w.heap.size w wr) (fun _ c _ => (intOf c + 1).toNat)
      case atStart => exact ⟨0, by omega, rfl, by simp, F1.out, F2.out, F3.out⟩
      case round =>
        obtain ⟨j, hj, rfl, rfl, h1, h2, h3⟩ := hrel
        have G1 := Kp.mk h1
        have G2 := Kp.mk h2
        have G3 := Kp.mk h3
        clear h1 h2 h3 F1 F2 F3
        have q0 : 0 ≤ E / 256 ^ j := Int.ediv_nonneg e0 (Int.pow_nonneg (by decide))
        have q1 : E / 256 ^ j ≤ 9000000000000000 := Int.le_trans (Int.ediv_le_self _ e0) e1
        have HQ : Kp (E / 256 ^ j / 256 = E / 256 ^ (j + 1)) := ⟨by rw [Int.ediv_ediv_of_nonneg (Int.pow_nonneg (by decide)), Int.pow_succ]⟩
        have HS := fun h => Kp.mk (lowst_set E j h)
        generalize hQ : E / 256 ^ j = Q at *
        by_cases hlj : j < 8
        · have HS2 := HS hlj
          clear HS
          obtain ⟨i, hi⟩ : ∃ i : Nat, (7 : Int) - j = i := ⟨7 - j, by omega⟩
          have HI : Kp (i = 7 - j ∧ i < 8) := ⟨by omega⟩
          rw [hi]
          have i8 : i < 8 := by omega
          have cw := G1.out.cell (i := i) (by rw [lowst_len E j hj]; exact i8)
          have fw := G1.out.frozen i
          have HHi := Kp.mk hi
          clear hi hQ
          go_wp2_with fail
          refine ⟨⟨j + 1, by omega, ?_, ?_, ?_, ?_, G3.out.setCell HDB.out.1 _⟩, by simp [intOf]⟩
          · have := HHi.out
            congr 1
            omega
          · rw [HQ.out]
          · refine (G1.out.set i _).as ?_
            rw [HI.out.1]
            exact HS2.out
          · refine ownsRow_set G2.out ?_
            cases a3 with
            | none => simp [Value.ownBlock]
            | some g => simp only [Value.ownBlock, ne_eq, Option.some.injEq]; exact HDB.out.2 g rfl
        · have HJ : Kp (j = 8) := ⟨by omega⟩
          obtain ⟨i, hi⟩ : ∃ i : Int, (7 : Int) - j = i := ⟨_, rfl⟩
          rw [hi]
          have i0 : i < 0 := by omega
          have hs := slice74_all D
          have G4 : Kp (Row wr D 158 .u8 (be64 E)) := by
            have h := G1.out
            rw [HJ.out, lowst_full] at h
            exact ⟨h⟩
          have HH : Kp (HoldsB wr wr.heap.size (.slice (some ⟨D, 0, none⟩) 8 8) (be64 E)) :=
            ⟨HoldsB.ofRow2 (off := 0) G4.out (be64_len E).symm (Nat.le_refl _) (by unfold maxLen; omega) (fun i hi => by simp [List.getElem?_eq_getElem hi, List.getD_eq_getElem?_getD]) (be64_bytes E)⟩
          have HLn : Kp (L = L0 + z) := ⟨by have := HLe.out; have := HK.out; omega⟩
          clear HS hi hQ G1 hlj hj
          go_wp2_with (at_builtin; refine wpList_append_holds rfl _ _ rfl w.heap.size _ _ _ rfl G2.out _ _ (be64 E) rfl HH.out ?f0 ?f1 ?_)
          case f0 => rw [be64_len]; omega
          case f1 => exact G3.out.size
          intro v6 w6 ho hg
          have hbel : Below w.heap.size w w6 := below_row_grown G3.out G3.out.size G2.out hg
          have ho6 : w6.ownsRow w.heap.size 5 1 v6 (pad p).length (bv (pad p)) := by
            have e1 : pre p z ++ be64 E = pad p := by rw [HZ.out, HN.out, ← HE.out]; exact pre_pad p
            rw [be64_len] at ho
            have e2 : bv (pad p) = bv (pre p z) ++ bv (be64 E) := by rw [← e1]; simp
            have e3 : (pad p).length = L + 8 := by rw [← e1, List.length_append, pre_len, be64_len]; have := HLn.out; have := HL0.out; have := HN.out; omega
            rw [e2, e3]
            simpa using ho
          have HO6 := Kp.mk ho6
          have HB6 := Kp.mk hbel
          clear ho hg hbel ho6 hs
          go_wp2_with fail
          go_ret
          exact ⟨_, rfl, HO6.out, HB6.out⟩
end Go.Proofs.YtpljjmdkagbjpaaDoor
