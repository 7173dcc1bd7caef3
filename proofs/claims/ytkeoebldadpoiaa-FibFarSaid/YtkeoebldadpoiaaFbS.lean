/-
  How far nodes are: the document's answer.
-/
import Derived.Test.YtkeoebldadpoiaaFbR
import Derived.Test.YtkeoebldadpoiaaFbO
import Derived.Test.YtkeoebldadpoiaaFbK
namespace Go.Proofs.Ytkeoebldadpoiaa
open Go.RowKit

/-- A slice that holds rows of bools. -/
def GridIs (w : World) (M : Nat) (v : Value) (L : List (List Bool)) : Prop := ∃ vs : List Value, vs.length = L.length ∧ HoldsF vc 1 w M v vs ∧ ∀ i, i < L.length → HoldsF bc 1 w M (vs.getD i default) (L.getD i default)
theorem GridIs.below {w w' : World} {M : Nat} {v : Value} {L : List (List Bool)} (h : GridIs w M v L) (hb : Below w.heap.size w w') : GridIs w' M v L := by
  obtain ⟨vs, h1, h2, h3⟩ := h
  exact ⟨vs, h1, h2.below hb, fun i hi => (h3 i hi).below hb⟩
theorem GridIs.shape {w : World} {M : Nat} {v : Value} {L : List (List Bool)} (h : GridIs w M v L) : (∃ a cap, v = .slice a L.length cap) ∧ L.length ≤ maxLen := by
  obtain ⟨vs, h1, h2, h3⟩ := h
  have := h2.len
  rw [← h1]
  exact ⟨h2.shape, this⟩
theorem GridIs.at {w : World} {M : Nat} {a : Option Addr} {n cap : Nat} {L : List (List Bool)} (h : GridIs w M (.slice a n cap) L) {i : Nat} (hi : i < L.length) :
    ∃ b off ai ci, a = some ⟨b, off, none⟩ ∧ b < w.heap.size ∧ w.cell? ⟨b, off + i, none⟩ = some (.slice ai (L.getD i default).length ci) ∧ HoldsF bc 1 w M (.slice ai (L.getD i default).length ci) (L.getD i default) := by
  obtain ⟨vs, h1, h2, h3⟩ := h
  obtain ⟨b, off, e, hs, hM, hc⟩ := h2.val (i := i) (by rw [h1]; exact hi)
  have h4 := h3 i hi
  obtain ⟨a', c', e'⟩ := h4.shape
  rw [e'] at hc h4
  exact ⟨b, off, a', c', e, hs, hc, h4⟩
theorem GridIs.take {w : World} {M : Nat} {a : Option Addr} {n cap : Nat} {L : List (List Bool)} (h : GridIs w M (.slice a n cap) L) {m : Nat} (hm : m ≤ L.length) : GridIs w M (.slice a m cap) (L.take m) ∧ m ≤ cap := by
  obtain ⟨vs, h1, h2, h3⟩ := h
  obtain ⟨h4, h5⟩ := h2.take (m := m) (by rw [h1]; exact hm)
  refine ⟨⟨vs.take m, by simp [h1], h4, fun i hi => ?_⟩, h5⟩
  have hi' : i < m := by simp at hi; omega
  rw [takeG hi', takeG hi']
  exact h3 i (by simp at hi; omega)
set_option maxHeartbeats 1600000 in
theorem linked_any (L : List (List Bool)) (a b M : Nat) (v : Value) (w : World) (hv : GridIs w M v L) (ha : a < L.length) (hb : b < L.length) :
    Calls Try.prog 27 #[v, .int .i64 a, .int .i64 b] w fun r w' => r = .returned (.bool (linkB L a b)) ∧ w = w' := by
  obtain ⟨⟨p, cp, rfl⟩, hlen⟩ := hv.shape
  obtain ⟨gb, go, ai, ci, rfl, -, hc, hH⟩ := hv.at ha
  have HH := Kp.mk hH
  have HR := Kp.mk (hH.len)
  have HQ : Kp (linkB L a b = (decide (b < (L.getD a default).length) && (L.getD a default).getD b default)) := ⟨by unfold linkB; simp [ha, hb]⟩
  obtain ⟨n, hn⟩ : ∃ n, n = L.length := ⟨_, rfl⟩
  rw [← hn] at ha hb hlen ⊢
  have hnm : n ≤ 9223372036854775807 := by unfold maxLen at hlen; omega
  clear hn hv hlen
  generalize L.getD a default = R at hc HH HR HQ hH
  obtain ⟨m, hm⟩ : ∃ m, m = R.length := ⟨_, rfl⟩
  rw [← hm] at hc HH HR HQ
  have hmm : m ≤ 9223372036854775807 := by have := HR.out; unfold maxLen at this; omega
  have HM := Kp.mk hm
  clear hm hH
  have t1 : (a : Int) < n := by omega
  have t2 : (b : Int) < n := by omega
  by_cases h : b < m
  · obtain ⟨gb2, go2, rfl, -, -, hc2⟩ := HH.out.bool (i := b) (by rw [← HM.out]; exact h)
    have t3 : (b : Int) < m := by omega
    have HQ2 : Kp (linkB L a b = R.getD b default) := ⟨by rw [HQ.out]; simp [h]⟩
    clear HQ
    generalize R.getD b default = x at hc2 HQ2
    go_enter Try.func27, Try.ntmps27
    go_wp2_with fail
    go_ret
    exact ⟨retb HQ2.out.symm, rfl⟩
  · have t3 : ¬ ((b : Int) < m) := by omega
    have HQ2 : Kp (linkB L a b = false) := ⟨by rw [HQ.out]; simp [h]⟩
    clear HQ
    go_enter Try.func27, Try.ntmps27
    go_wp2_with fail
    go_ret
    exact ⟨retb HQ2.out.symm, rfl⟩
/-- What is told of how far nodes are. -/
structure FarOk (L : List (List Bool)) (dest : Int) (far : List Int) : Prop where
  len : far.length = L.length
  yes : 0 ≤ dest → dest < (L.length : Int) → IsFar L dest.toNat (at' far)
  no : ¬ (0 ≤ dest ∧ dest < (L.length : Int)) → far = List.replicate L.length (-1)
theorem FarOk.uniq {L : List (List Bool)} {dest : Int} {f g : List Int} (hf : FarOk L dest f) (hg : FarOk L dest g) : f = g := by
  by_cases h : 0 ≤ dest ∧ dest < (L.length : Int)
  · exact far_one (hf.yes h.1 h.2) (hg.yes h.1 h.2) hf.len hg.len
  · rw [hf.no h, hg.no h]
def FarPost (L : List (List Bool)) (dest : Int) (w : World) (r : Ending) (w' : World) : Prop := ∃ v far, FarOk L dest far ∧ r = .returned v ∧ w'.ownsRow w.heap.size 3 1 v far.length (ivs far) ∧ Below w.heap.size w w'
theorem ivs_set (l : List Int) (j : Nat) (v : Int) : (ivs l).set j (.int .i64 v) = ivs (l.set j v) := by rw [ivs_map, ivs_map, List.map_set]
theorem ivs_at {l : List Int} {j : Nat} (hj : j < l.length) : (ivs l)[j]? = some (.int .i64 (at' l j)) := by rw [ivs_map, List.getElem?_map, List.getElem?_eq_getElem hj, at', gd hj]; rfl
/-- A row of so many ints of the call's own. -/
structure FarIs (A F n cap : Nat) (far : List Int) (w0 w : World) : Prop where
  own : w.ownsRow A 3 1 (.slice (some ⟨F, 0, none⟩) n cap) n (ivs far)
  len : far.length = n
  hb : Below A w0 w
theorem FarIs.cell {A F n cap : Nat} {far : List Int} {w0 w : World} (h : FarIs A F n cap far w0 w) {j : Nat} (hj : j < n) : w.cell? ⟨F, j, none⟩ = some (.int .i64 (at' far j)) := by
  rw [h.own.cellAt j (by omega), ivs_at (by rw [h.len]; exact hj)]
theorem FarIs.frozen {A F n cap : Nat} {far : List Int} {w0 w : World} (h : FarIs A F n cap far w0 w) (j : Nat) : w.frozen? ⟨F, j, none⟩ = false := h.own.frozenAt j
theorem FarIs.lt {A F n cap : Nat} {far : List Int} {w0 w : World} (h : FarIs A F n cap far w0 w) : A ≤ F ∧ F < w.heap.size := h.own.lt F rfl
theorem FarIs.set {A F n cap : Nat} {far : List Int} {w0 w : World} (h : FarIs A F n cap far w0 w) (j : Nat) (v : Int) : FarIs A F n cap (far.set j v) w0 (w.setCell ⟨F, j, none⟩ (.int .i64 v)) := by
  have h1 := h.own.stored j (.int .i64 v)
  refine ⟨by rw [← ivs_set]; exact h1.1, by simp [h.len], h.hb.setCell (p := ⟨F, j, none⟩) h.lt.1 _⟩
theorem FarIs.keep {A F n cap : Nat} {far : List Int} {w0 w w' : World} (h : FarIs A F n cap far w0 w) (hb : Below w.heap.size w w') : FarIs A F n cap far w0 w' :=
  ⟨ownsRow_below h.own hb, h.len, h.hb.trans (hb.mono (Nat.le_of_lt (Nat.lt_of_le_of_lt h.lt.1 h.lt.2)))⟩
set_option maxRecDepth 100000 in
set_option maxHeartbeats 6400000 in
theorem rfar_any (L : List (List Bool)) (dest : Int) (M : Nat) (v : Value) (w : World) (hv : GridIs w M v L) (hL : L.length ≤ 10) :
    Calls Try.prog 19 #[v, .int .i64 dest] w (FarPost L dest w) := by
  obtain ⟨⟨p, cp, rfl⟩, _⟩ := hv.shape
  have HV := Kp.mk hv
  clear hv
  obtain ⟨n, hn⟩ : ∃ n, n = L.length := ⟨_, rfl⟩
  rw [← hn] at HV hL ⊢
  have HN := Kp.mk hn
  clear hn
  obtain ⟨i0, hi0, hz0, hz1, hz2⟩ := info_parts info3'
  obtain ⟨A, hA⟩ : ∃ A, A = w.heap.size := ⟨_, rfl⟩
  have HAe := Kp.mk hA
  clear hA
  go_enter Try.func19, Try.ntmps19
  go_wp2_with fail
  go_loopw [5, 6] (fun v c wr => ∃ i : Nat, i ≤ n ∧ c = .int .i64 i ∧ Kp (wr.ownsRow A 3 1 v i (ivs (List.replicate i (-1)))) ∧ Kp (Below A w wr) ∧ Kp (A ≤ wr.heap.size)) (fun _ c _ => n - (intOf c).toNat)
  case atStart => exact ⟨0, by omega, rfl, ⟨World.ownsRow_nil _ _ _ _⟩, ⟨by rw [HAe.out]; exact Below.refl _ _⟩, ⟨by rw [HAe.out]; exact Nat.le_refl _⟩⟩
  case round =>
    obtain ⟨i, hi, rfl, HO, E0, Z0⟩ := hrel
    by_cases hlt : i < n
    · have t1 : (i : Int) < n := by omega
      have HLT := Kp.mk hlt
      go_wp2_with (at_builtin; refine wpList_append_own _ rfl _ _ 39 rfl A 3 i0 (.int .i64 0) 1 8 Try.underlying39 hi0 hz0 hz1 hz2 rfl (by decide) _ i (ivs (List.replicate i (-1))) rfl (HO.out.alloc _) ⟨wr.heap.size, 0, none⟩ 1 1 [.int .i64 (-1)] rfl rfl ?c1 ?c2 ?c3 ?c4 ?c5 ?_)
      case c1 =>
        intro j u hj
        match j, hj with
        | 0, hj => simp at hj; subst hj; simp [Addr.add]
      case c2 =>
        intro u hu
        simp at hu
        subst hu
        rfl
      case c3 => unfold maxLen; omega
      case c4 => omega
      case c5 => have := Z0.out; simp; omega
      · intro v' w3 hown' hgrow _
        have E3 : Kp (Below A w w3) := ⟨below_row_grown (E0.out.alloc Z0.out _) (by have := Z0.out; simp; omega) (HO.out.alloc _) hgrow⟩
        have Z3 : Kp (A ≤ w3.heap.size) := ⟨by have h8 := hgrow.size; have := Z0.out; simp at h8; omega⟩
        have HO3 : Kp (w3.ownsRow A 3 1 v' (i + 1) (ivs (List.replicate (i + 1) (-1)))) := ⟨by rw [List.replicate_succ', ← ivs_snoc]; exact hown'⟩
        clear hown' hgrow
        go_wp2_with fail
        exact ⟨⟨i + 1, by have := HLT.out; omega, by go_num, HO3, E3, Z3⟩, by have := HLT.out; simp [intOf]; omega⟩
    · obtain rfl : i = n := by omega
      by_cases hd : 0 ≤ dest ∧ dest < (i : Int)
      · obtain ⟨d, rfl⟩ : ∃ d : Nat, dest = d := ⟨dest.toNat, by omega⟩
        have hdi : d < i := by omega
        have h1 : ¬ ((d : Int) < 0) := by omega
        have h2 : (d : Int) < i := by omega
        obtain ⟨pf, cf, rfl⟩ : ∃ pf cf, u5 = .slice pf i cf := by
          rcases HO.out.2 with ⟨_, h⟩ | ⟨g, cap, cur, h, _⟩
          · omega
          · exact ⟨_, _, h⟩
        obtain ⟨F, rfl⟩ : ∃ F, pf = some ⟨F, 0, none⟩ := by
          rcases HO.out.2 with ⟨_, h⟩ | ⟨g, cap, cur, h, _⟩
          · omega
          · cases h; exact ⟨g, rfl⟩
        have FI := Kp.mk (FarIs.mk HO.out (by simp) E0.out)
        have HDI := Kp.mk hdi
        have c0 := FI.out.cell hdi
        have f0 := FI.out.frozen d
        have FI2 : Kp (FarIs A F i cf ((List.replicate i (-1)).set d 0) w (wr.setCell ⟨F, d, none⟩ (.int .i64 0))) := ⟨FI.out.set d 0⟩
        have RN : Kp (Rnd L d ((List.replicate i (-1)).set d 0) 0 0 0) := ⟨by rw [HN.out]; exact Rnd.start (by rw [← HN.out]; exact HDI.out)⟩
        have FLT := Kp.mk FI.out.lt
        clear hd hdi HO E0 FI
        generalize (List.replicate i (-1 : Int)).set d 0 = far0 at FI2 RN
        go_wp2_with fail
        clear c0 f0
        revert FI2
        generalize wr.setCell ⟨F, d, none⟩ (.int .i64 0) = w1
        intro FI2
        go_loopw [7, 8, 9] (fun c _ _ wx => ∃ (r : Nat) (far : List Int), r ≤ i ∧ c = .int .i64 r ∧ Kp (Rnd L d far r 0 0) ∧ Kp (FarIs A F i cf far w wx)) (fun c _ _ _ => i - (intOf c).toNat)
        case atStart => exact ⟨0, far0, by omega, rfl, RN, FI2⟩
        case round =>
          obtain ⟨r, far, hr, rfl, R0, F0⟩ := hrel
          by_cases hri : r < i
          · have t2 : (r : Int) < i := by omega
            have HRI := Kp.mk hri
            clear hri hr
            go_wp2_with fail
            go_loopw [8, 9] (fun c _ wx => ∃ (a : Nat) (far : List Int), a ≤ i ∧ c = .int .i64 a ∧ Kp (Rnd L d far r a 0) ∧ Kp (FarIs A F i cf far w wx)) (fun c _ _ => i - (intOf c).toNat)
            case atStart => exact ⟨0, far, by omega, rfl, R0, F0⟩
            case round =>
              clear R0 F0
              obtain ⟨a, far, ha, rfl, R0, F0⟩ := hrel
              by_cases hai : a < i
              · have t3 : (a : Int) < i := by omega
                have HAI := Kp.mk hai
                clear hai ha
                go_wp2_with fail
                go_loopw [9] (fun c wx => ∃ (b : Nat) (far : List Int), b ≤ i ∧ c = .int .i64 b ∧ Kp (Rnd L d far r a b) ∧ Kp (FarIs A F i cf far w wx)) (fun c _ => i - (intOf c).toNat)
                case atStart => exact ⟨0, far, by omega, rfl, R0, F0⟩
                case round =>
                  clear R0 F0
                  obtain ⟨b, far, hb, rfl, R0, F0⟩ := hrel
                  by_cases hbi : b < i
                  · have t4 : (b : Int) < i := by omega
                    have HBI := Kp.mk hbi
                    have ca := F0.out.cell HAI.out
                    have cb := F0.out.cell hbi
                    have fb := F0.out.frozen b
                    have HSK := Kp.mk R0.out.skip
                    have HST := Kp.mk (R0.out.set (by rw [← HN.out]; exact HAI.out) (by rw [← HN.out]; exact hbi))
                    have HFS := Kp.mk (F0.out.set b ((r : Int) + 1))
                    have HLK := Kp.mk (linked_any L a b M _ _ (HV.out.below (by rw [← HAe.out]; exact F0.out.hb)) (by rw [← HN.out]; exact HAI.out) (by rw [← HN.out]; exact hbi))
                    clear hbi hb
                    generalize at' far a = fa at ca HSK HST
                    generalize at' far b = fb' at cb HSK HST
                    by_cases e1 : fa = (r : Int)
                    · have e1b : (fa == (r : Int)) = true := by simp [e1]
                      by_cases e2 : fb' < 0
                      · have HST2 := Kp.mk (HST.out e1 e2)
                        clear e1 HST
                        go_wp2_with fail
                        refine HLK.out.mono ?_
                        rintro q w9 ⟨rfl, rfl⟩
                        cases hl : linkB L a b with
                        | false =>
                          have HS2 := Kp.mk (HSK.out (.inr (.inr hl)))
                          clear hl HSK HST2
                          go_wp2_with fail
                          exact ⟨⟨b + 1, far, by have := HBI.out; omega, by go_num, HS2, F0⟩, by have := HBI.out; simp [intOf]; omega⟩
                        | true =>
                          have HS2 := Kp.mk (HST2.out hl)
                          clear hl HSK HST2
                          go_wp2_with fail
                          exact ⟨⟨b + 1, far.set b ((r : Int) + 1), by have := HBI.out; omega, by go_num, HS2, HFS⟩, by have := HBI.out; simp [intOf]; omega⟩
                      · have HS2 := Kp.mk (HSK.out (.inr (.inl (by omega))))
                        clear HSK HST e1
                        go_wp2_with fail
                        exact ⟨⟨b + 1, far, by have := HBI.out; omega, by go_num, HS2, F0⟩, by have := HBI.out; simp [intOf]; omega⟩
                    · have e1b : (fa == (r : Int)) = false := by simp [e1]
                      have HS2 := Kp.mk (HSK.out (.inl e1))
                      clear HSK HST e1
                      go_wp2_with fail
                      exact ⟨⟨b + 1, far, by have := HBI.out; omega, by go_num, HS2, F0⟩, by have := HBI.out; simp [intOf]; omega⟩
                  · obtain rfl : b = i := by omega
                    have HS2 : Kp (Rnd L d far r (a + 1) 0) := ⟨by have h := R0.out; rw [HN.out] at h; exact h.nextA⟩
                    go_wp2_with fail
                    exact ⟨⟨a + 1, far, by have := HAI.out; omega, by go_num, HS2, F0⟩, by have := HAI.out; simp [intOf]; omega⟩
              · obtain rfl : a = i := by omega
                have HS2 : Kp (Rnd L d far (r + 1) 0 0) := ⟨by have h := R0.out; rw [HN.out] at h; exact h.nextR⟩
                go_wp2_with fail
                exact ⟨⟨r + 1, far, by have := HRI.out; omega, by go_num, HS2, F0⟩, by have := HRI.out; simp [intOf]; omega⟩
          · obtain rfl : r = i := by omega
            have HOK : Kp (FarOk L (d : Int) far) := ⟨R0.out.len, fun _ h => by have hh := R0.out; rw [HN.out] at hh; exact hh.isFar (by omega), fun h => absurd ⟨by omega, by rw [← HN.out]; have := HDI.out; omega⟩ h⟩
            go_wp2_with fail
            go_ret
            exact ⟨_, far, HOK.out, rfl, by rw [← HAe.out, F0.out.len]; exact F0.out.own, by rw [← HAe.out]; exact F0.out.hb⟩
      · have HD := Kp.mk hd
        have HNO : Kp (dest < 0 ∨ ((0 ≤ dest) ∧ (i : Int) ≤ dest)) := ⟨by omega⟩
        clear hd
        rcases HNO.out with h1 | ⟨h1, h2⟩
        · go_wp2_with fail
          go_ret
          exact ⟨_, List.replicate i (-1), ⟨by rw [← HN.out]; simp, fun h3 h4 => absurd h1 (by omega), fun _ => by rw [← HN.out]⟩, rfl, by rw [← HAe.out]; simpa using HO.out, by rw [← HAe.out]; exact E0.out⟩
        · have h3 : ¬ (dest < (i : Int)) := by omega
          go_wp2_with fail
          go_ret
          exact ⟨_, List.replicate i (-1), ⟨by rw [← HN.out]; simp, fun h3 h4 => absurd h4 (by rw [← HN.out]; omega), fun _ => by rw [← HN.out]⟩, rfl, by rw [← HAe.out]; simpa using HO.out, by rw [← HAe.out]; exact E0.out⟩
end Go.Proofs.Ytkeoebldadpoiaa
