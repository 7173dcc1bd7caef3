/-
  How far nodes are: the program's answer; FibFar: the walk.
-/
import Derived.Test.YtkeoebldadpoiaaFbS
import Derived.Deep.Slices
namespace Go.Proofs.Ytkeoebldadpoiaa
open Go.RowKit

theorem chainF {L : List (List Bool)} {dest : Nat} {far : List Int} (hz : at' far dest = 0) (hp : ∀ b, b < L.length → b ≠ dest → 0 ≤ at' far b → ∃ a, a < L.length ∧ linkB L a b = true ∧ 0 ≤ at' far a ∧ at' far b = at' far a + 1) : ∀ (k : Nat) (x : Nat), x < L.length → at' far x = k →
    ∃ l : List Int, l.Nodup ∧ l.length = k + 1 ∧ ∀ y ∈ l, 0 ≤ y ∧ y < (L.length : Int) ∧ at' far y.toNat ≤ k := by
  intro k
  induction k with
  | zero => intro x hx e; exact ⟨[(x : Int)], by simp, rfl, fun y hy => by simp at hy; subst hy; exact ⟨by omega, by omega, by rw [Int.toNat_natCast, e]; omega⟩⟩
  | succ k ih =>
    intro x hx e
    have hne : x ≠ dest := fun e2 => by rw [e2, hz] at e; omega
    obtain ⟨z, hzl, _, z1, z2⟩ := hp x hx hne (by omega)
    obtain ⟨l, h1, h2, h3⟩ := ih z hzl (by omega)
    refine ⟨(x : Int) :: l, List.nodup_cons.2 ⟨fun hm => ?_, h1⟩, by simp [h2], fun y hy => ?_⟩
    · have := (h3 _ hm).2.2
      rw [Int.toNat_natCast, e] at this
      omega
    · rcases List.mem_cons.1 hy with rfl | hy
      · exact ⟨by omega, by omega, by rw [Int.toNat_natCast, e]; omega⟩
      · have := h3 y hy
        exact ⟨this.1, this.2.1, by omega⟩
theorem Bfs.small {L : List (List Bool)} {dest : Nat} {far : List Int} {Q : List Nat} {b mu : Nat} (H : Bfs L dest far Q b mu) {x : Nat} (hx : x < L.length) : at' far x < L.length := by
  by_cases h0 : 0 ≤ at' far x
  · obtain ⟨l, h1, h2, h3⟩ := chainF H.zero H.pred (at' far x).toNat x hx (by omega)
    have := holes L.length l h1 (fun y hy => ⟨(h3 y hy).1, (h3 y hy).2.1⟩)
    omega
  · omega
abbrev qs (Q : List Nat) : List Int := Q.map fun x : Nat => (x : Int)
theorem OwnQ.ne {w : World} {A F : Nat} {v : Value} {Q : List Int} (h : OwnQ w A F v Q) : ∃ g, v.ownBlock = some g ∧ A ≤ g ∧ g ≠ F := by
  obtain ⟨g, o, cap, cur, rfl, h2, h3, _⟩ := h
  exact ⟨g, rfl, h2, h3⟩
theorem FarIs.grown {A F n cap : Nat} {far : List Int} {w0 w w' : World} {v : Value} {Q : List Int} (h : FarIs A F n cap far w0 w) (hq : OwnQ w A F v Q) (hg : w.grownBy w' v.ownBlock) : FarIs A F n cap far w0 w' := by
  obtain ⟨g, e, h1, h2⟩ := hq.ne
  rw [e] at hg
  exact ⟨h.own.kept hg (.inr (by simp [Value.ownBlock]; exact fun e => h2 e.symm)), h.len, h.hb.grown hg (Nat.le_of_lt (Nat.lt_of_le_of_lt h.lt.1 h.lt.2)) (fun k hk => by injection hk with hk; omega)⟩
set_option maxRecDepth 100000 in
set_option maxHeartbeats 6400000 in
theorem far_any (L : List (List Bool)) (dest : Int) (M : Nat) (v : Value) (w : World) (hv : GridIs w M v L) (hL : L.length ≤ 10) :
    Calls Try.prog 18 #[v, .int .i64 dest] w (FarPost L dest w) := by
  obtain ⟨⟨p, cp, rfl⟩, _⟩ := hv.shape
  have HV := Kp.mk hv
  clear hv
  obtain ⟨n, hn⟩ : ∃ n, n = L.length := ⟨_, rfl⟩
  rw [← hn] at HV hL ⊢
  have HN := Kp.mk hn
  clear hn
  obtain ⟨A, hA⟩ : ∃ A, A = w.heap.size := ⟨_, rfl⟩
  have HAe := Kp.mk hA
  clear hA
  go_enter Try.func18, Try.ntmps18
  go_wp2_with fail
  refine (repeat_any n w.heap.size hL _ (Blk.new _ _)).mono ?_
  rintro r w1 ⟨u, rfl, ho, hb⟩
  have HO : Kp (w1.ownsRow A 3 1 u n (ivs (List.replicate n (-1)))) := ⟨ownsRow_base ho (by rw [HAe.out]; simp)⟩
  have E0 : Kp (Below A w w1) := ⟨by rw [HAe.out]; exact (more (Below.refl _ _) _).trans (hb.mono (by simp))⟩
  clear ho hb
  go_wp2_with fail
  refine (isOf_any dest n _).mono ?_
  rintro r w2 ⟨rfl, rfl⟩
  by_cases hd : 0 ≤ dest ∧ dest < (n : Int)
  · have hdt : decide (0 ≤ dest ∧ dest < (n : Int)) = true := by simp [hd]
    rw [hdt]
    clear hdt
    obtain ⟨d, rfl⟩ : ∃ d : Nat, dest = d := ⟨dest.toNat, by omega⟩
    have hdi : d < n := by omega
    have h2 : (d : Int) < n := by omega
    obtain ⟨F, cf, rfl⟩ : ∃ F cf, u = .slice (some ⟨F, 0, none⟩) n cf := by
      rcases HO.out.2 with ⟨_, h⟩ | ⟨g, cap, cur, h, _⟩
      · omega
      · exact ⟨_, _, h⟩
    have FI := Kp.mk (FarIs.mk HO.out (by simp) E0.out)
    have HDI := Kp.mk hdi
    have c0 := FI.out.cell hdi
    have f0 := FI.out.frozen d
    have FI2 : Kp (FarIs A F n cf ((List.replicate n (-1)).set d 0) w (w1.setCell ⟨F, d, none⟩ (.int .i64 0))) := ⟨FI.out.set d 0⟩
    have BS : Kp (Bfs L d ((List.replicate n (-1)).set d 0) [d] 0 n) := ⟨by rw [HN.out]; exact Bfs.start (by rw [← HN.out]; exact HDI.out)⟩
    clear hd hdi HO E0 FI
    generalize (List.replicate n (-1 : Int)).set d 0 = far0 at FI2 BS
    go_wp2_with fail
    clear c0 f0
    have hsz : (w1.setCell ⟨F, d, none⟩ (.int .i64 0)).heap.size = w1.heap.size := by simp
    revert FI2 hsz
    generalize w1.setCell ⟨F, d, none⟩ (.int .i64 0) = w2
    intro FI2 hsz
    have QI : Kp (OwnQ (w2.alloc (.cells #[.int .i64 d] 3)) A F (.slice (some ⟨w1.heap.size, 0, none⟩) 1 1) (qs [d])) := ⟨by rw [← hsz]; exact OwnQ.one (by have := FI2.out.lt; omega) (by have := FI2.out.lt; omega) (Blk.new _ _)⟩
    clear hsz
    have FI3 : Kp (FarIs A F n cf far0 w (w2.alloc (.cells #[.int .i64 d] 3))) := ⟨FI2.out.keep (more (Below.refl _ _) _)⟩
    clear FI2
    go_loopg [7, 8, 9] n (fun k v _ _ wx => ∃ (Q : List Nat) (far : List Int), Kp (Bfs L d far Q 0 k) ∧ Kp (OwnQ wx A F v (qs Q)) ∧ Kp (FarIs A F n cf far w wx) ∧ Kp (k ≤ n))
    case atStart => exact ⟨[d], far0, BS, QI, FI3, ⟨Nat.le_refl _⟩⟩
    case round =>
      obtain ⟨Q, far, B0, Q0, F0, GK⟩ := hrel
      obtain ⟨g, o, cap, rfl, hcap⟩ := Q0.out.shape
      cases Q with
      | nil =>
        have HOK : Kp (FarOk L (d : Int) far) := ⟨B0.out.len, fun _ h => by have hh := B0.out.isFar; rw [Int.toNat_natCast]; exact hh, fun h => absurd ⟨by omega, by rw [← HN.out]; have := HDI.out; omega⟩ h⟩
        clear hcap
        go_wp2_with fail
        go_ret
        exact ⟨_, far, HOK.out, rfl, by rw [← HAe.out, F0.out.len]; exact F0.out.own, by rw [← HAe.out]; exact F0.out.hb⟩
      | cons h t =>
        have hq := Q0.out.head
        have HH := Kp.mk (B0.out.inq h (by simp))
        have hhn : h < n := by rw [HN.out]; exact HH.out.1
        have t1 : (h : Int) < n := by omega
        obtain ⟨rb, ro, ra, rc, rfl, hrs, hrc, hrH⟩ := HV.out.at HH.out.1
        have HLB : Kp (∀ b, b < (L.getD h default).length → b < n → linkB L h b = (L.getD h default).getD b default) := ⟨fun b hb hbn => by unfold linkB; simp only [decide_eq_true HH.out.1, decide_eq_true hb, decide_eq_true (show b < L.length by rw [← HN.out]; exact hbn), Bool.true_and]⟩
        have HLN : Kp (∀ b, b < L.length → linkB L h b = true → b < (L.getD h default).length) := ⟨fun b hb hl => by unfold linkB at hl; simp only [Bool.and_eq_true, decide_eq_true_eq] at hl; exact hl.1.2⟩
        have HRL := Kp.mk hrH.len
        generalize L.getD h default = R at hrc hrH HLB HLN HRL
        obtain ⟨rl, hrl⟩ : ∃ rl, rl = R.length := ⟨_, rfl⟩
        rw [← hrl] at hrc hrH HLB HLN HRL
        have HRE := Kp.mk hrl
        have hrm : rl ≤ 9223372036854775807 := by have := HRL.out; unfold maxLen at this; omega
        have HRH := Kp.mk hrH
        have HRC := Kp.mk (And.intro hrs hrc)
        have hrcx := (F0.out.hb.cell (p := ⟨rb, ro + h, none⟩) (by rw [HAe.out]; exact HRC.out.1)).trans HRC.out.2
        have e1 : (0 : Int) < (t.length : Int) + 1 := by omega
        simp only [qs, List.map_cons, List.length_cons, List.length_map] at hcap ⊢
        clear hrl hrH hrs hrc
        by_cases hrn : rl ≤ n
        · have hmin : (rl : Int) ≤ (n : Int) := by omega
          have HM : Kp (rl ≤ n ∧ rl ≤ rl ∧ ∀ b, b < n → b < rl → b < rl) := ⟨by omega, by omega, fun b h1 h2 => by omega⟩
          clear hrn
          go_wp2_with fail
          have Q1 : Kp (OwnQ wr A F (.slice (some ⟨g, o, none⟩) (t.length + 1) cap) (qs (h :: t))) := ⟨by simpa [qs] using Q0.out⟩
          clear Q0 hq hcap hrcx
          go_loopw [7, 9, 40] (fun v _ c wx => ∃ (b : Nat) (far : List Int) (t : List Nat), b ≤ rl ∧ c = .int .i64 b ∧ Kp (Bfs L d far (h :: t) b gk) ∧ Kp (OwnQ wx A F v (qs (h :: t))) ∧ Kp (FarIs A F n cf far w wx)) (fun _ _ c _ => rl - (intOf c).toNat)
          case atStart => exact ⟨0, far, t, by omega, rfl, B0, Q1, F0⟩
          case round =>
            clear Q1 B0 F0
            obtain ⟨b, far, t, hb, rfl, B0, Q0, F0⟩ := hrel
            by_cases hbm : b < rl
            · have t5 : (b : Int) < rl := by omega
              have HBM := Kp.mk hbm
              have hbn : b < n := Nat.lt_of_lt_of_le hbm HM.out.1
              have hbr : b < rl := Nat.lt_of_lt_of_le hbm HM.out.2.1
              have t6 : (b : Int) < n := by omega
              have t7 : (b : Int) < rl := by omega
              have hrcx := (F0.out.hb.cell (p := ⟨rb, ro + h, none⟩) (by rw [HAe.out]; exact HRC.out.1)).trans HRC.out.2
              obtain ⟨sb, so, rfl, -, -, hsc⟩ := (HRH.out.below (by rw [← HAe.out]; exact F0.out.hb)).bool (i := b) (by rw [← HRE.out]; exact hbr)
              have HLK := Kp.mk (HLB.out b hbr hbn)
              have cb := F0.out.cell hbn
              have ch := F0.out.cell hhn
              have fb := F0.out.frozen b
              have HSK : Kp (linkB L h b = false ∨ at' far b ≠ -1 → Bfs L d far (h :: t) (b + 1) gk) := ⟨fun h => B0.out.skip h⟩
              have HPU : Kp (linkB L h b = true → at' far b = -1 → Bfs L d (far.set b (at' far h + 1)) (h :: (t ++ [b])) (b + 1) gk) := ⟨fun h1 h2 => B0.out.push (by rw [← HN.out]; exact hbn) h1 h2⟩
              have HFS := Kp.mk (F0.out.set b (at' far h + 1))
              have fh0 : 0 ≤ at' far h := (B0.out.inq h (by simp)).2
              have fh1 : at' far h < 10 := by have := B0.out.small HH.out.1; have := HN.out; omega
              have HQL : Kp ((qs (h :: t)).length < 1000) := ⟨by have := B0.out.meas; have hu : gk ≤ n := GK.out; simp [qs] at this ⊢; omega⟩
              clear hb hbm hbr hbn
              generalize R.getD b default = x at hsc HLK
              generalize at' far b = fb' at cb HSK HPU
              generalize at' far h = fh at ch HPU HFS fh0 fh1
              cases x with
              | false =>
                have B1 := Kp.mk (HSK.out (.inl HLK.out))
                clear HSK HPU HFS
                go_wp2_with fail
                exact ⟨⟨b + 1, far, t, by have := HBM.out; omega, by go_num, B1, Q0, F0⟩, by have := HBM.out; simp [intOf]; omega⟩
              | true =>
                by_cases hf : fb' = -1
                · have hfb : (fb' == -1) = true := by simp [hf]
                  have B1 := Kp.mk (HPU.out HLK.out hf)
                  have Q2 : Kp (OwnQ ((wr.setCell ⟨F, b, none⟩ (.int .i64 (fh + 1))).alloc (.cells #[.int .i64 b] 3)) A F u7 (qs (h :: t))) := ⟨(Q0.out.keep (fun k _ hne => Below.heap_setCell _ _ _ _ hne)).keep (fun k hk _ => heap_alloc_old _ _ hk)⟩
                  have F2 : Kp (FarIs A F n cf (far.set b (fh + 1)) w ((wr.setCell ⟨F, b, none⟩ (.int .i64 (fh + 1))).alloc (.cells #[.int .i64 b] 3))) := ⟨HFS.out.keep (more (Below.refl _ _) _)⟩
                  clear hf HSK HPU HFS Q0 F0 B0
                  go_wp2_with (at_builtin; refine wpList_append_q rfl (.tmp 65) (.tmp 67) rfl rfl Q2.out (by have := F2.out.lt; omega) F2.out.lt.2 b ⟨wr.heap.size, 0, none⟩ 1 rfl ?c1 HQL.out ?_)
                  case c1 => exact (Blk.newAt _ (by simp)).cell 0
                  · intro v' w4 hq4 hg4
                    have F4 := Kp.mk (F2.out.grown Q2.out hg4)
                    have Q4 : Kp (OwnQ w4 A F v' (qs (h :: (t ++ [b])))) := ⟨by simpa [qs] using hq4⟩
                    clear hq4 hg4
                    go_wp2_with fail
                    exact ⟨⟨b + 1, _, t ++ [b], by have := HBM.out; omega, by go_num, B1, Q4, F4⟩, by have := HBM.out; simp [intOf]; omega⟩
                · have hfb : (fb' == -1) = false := by simp [hf]
                  have B1 := Kp.mk (HSK.out (.inr hf))
                  clear hf HSK HPU HFS
                  go_wp2_with fail
                  exact ⟨⟨b + 1, far, t, by have := HBM.out; omega, by go_num, B1, Q0, F0⟩, by have := HBM.out; simp [intOf]; omega⟩
            · obtain rfl : b = rl := by omega
              have B1 := Kp.mk (B0.out.pop (fun y hy hl => HM.out.2.2 y (by rw [HN.out]; exact hy) (HLN.out y hy hl)))
              have HGK : Kp (gk - 1 < gk) := ⟨by have := B0.out.meas; simp at this; omega⟩
              obtain ⟨g2, o2, cap2, rfl, hcap2⟩ := Q0.out.shape
              have Q1 := Kp.mk Q0.out.tail
              simp only [qs, List.map_cons, List.length_cons, List.length_map] at hcap2 Q1 ⊢
              have t8 : (1 : Int) ≤ (t.length : Int) + 1 := by omega
              clear Q0
              by_cases hc : cap2 = 1
              · subst hc
                rw [if_pos rfl] at Q1
                obtain rfl : t = [] := List.eq_nil_of_length_eq_zero (by omega)
                go_wp2_with fail
                go_roundg (gk - 1)
                case measure => exact HGK.out
                case rel => exact ⟨[], far, B1, Q1, F0, ⟨by have := GK.out; omega⟩⟩
              · rw [if_neg hc] at Q1
                go_wp2_with fail
                go_roundg (gk - 1)
                case measure => exact HGK.out
                case rel => exact ⟨t, far, B1, Q1, F0, ⟨by have := GK.out; omega⟩⟩
        · have hmin : ¬ ((rl : Int) ≤ (n : Int)) := by omega
          have HM : Kp (n ≤ n ∧ n ≤ rl ∧ ∀ b, b < n → b < rl → b < n) := ⟨by omega, by omega, fun b h1 h2 => by omega⟩
          clear hrn
          go_wp2_with fail
          have Q1 : Kp (OwnQ wr A F (.slice (some ⟨g, o, none⟩) (t.length + 1) cap) (qs (h :: t))) := ⟨by simpa [qs] using Q0.out⟩
          clear Q0 hq hcap hrcx
          go_loopw [7, 9, 40] (fun v _ c wx => ∃ (b : Nat) (far : List Int) (t : List Nat), b ≤ n ∧ c = .int .i64 b ∧ Kp (Bfs L d far (h :: t) b gk) ∧ Kp (OwnQ wx A F v (qs (h :: t))) ∧ Kp (FarIs A F n cf far w wx)) (fun _ _ c _ => n - (intOf c).toNat)
          case atStart => exact ⟨0, far, t, by omega, rfl, B0, Q1, F0⟩
          case round =>
            clear Q1 B0 F0
            obtain ⟨b, far, t, hb, rfl, B0, Q0, F0⟩ := hrel
            by_cases hbm : b < n
            · have t5 : (b : Int) < n := by omega
              have HBM := Kp.mk hbm
              have hbn : b < n := Nat.lt_of_lt_of_le hbm HM.out.1
              have hbr : b < rl := Nat.lt_of_lt_of_le hbm HM.out.2.1
              have t6 : (b : Int) < n := by omega
              have t7 : (b : Int) < rl := by omega
              have hrcx := (F0.out.hb.cell (p := ⟨rb, ro + h, none⟩) (by rw [HAe.out]; exact HRC.out.1)).trans HRC.out.2
              obtain ⟨sb, so, rfl, -, -, hsc⟩ := (HRH.out.below (by rw [← HAe.out]; exact F0.out.hb)).bool (i := b) (by rw [← HRE.out]; exact hbr)
              have HLK := Kp.mk (HLB.out b hbr hbn)
              have cb := F0.out.cell hbn
              have ch := F0.out.cell hhn
              have fb := F0.out.frozen b
              have HSK : Kp (linkB L h b = false ∨ at' far b ≠ -1 → Bfs L d far (h :: t) (b + 1) gk) := ⟨fun h => B0.out.skip h⟩
              have HPU : Kp (linkB L h b = true → at' far b = -1 → Bfs L d (far.set b (at' far h + 1)) (h :: (t ++ [b])) (b + 1) gk) := ⟨fun h1 h2 => B0.out.push (by rw [← HN.out]; exact hbn) h1 h2⟩
              have HFS := Kp.mk (F0.out.set b (at' far h + 1))
              have fh0 : 0 ≤ at' far h := (B0.out.inq h (by simp)).2
              have fh1 : at' far h < 10 := by have := B0.out.small HH.out.1; have := HN.out; omega
              have HQL : Kp ((qs (h :: t)).length < 1000) := ⟨by have := B0.out.meas; have hu : gk ≤ n := GK.out; simp [qs] at this ⊢; omega⟩
              clear hb hbm hbr hbn
              generalize R.getD b default = x at hsc HLK
              generalize at' far b = fb' at cb HSK HPU
              generalize at' far h = fh at ch HPU HFS fh0 fh1
              cases x with
              | false =>
                have B1 := Kp.mk (HSK.out (.inl HLK.out))
                clear HSK HPU HFS
                go_wp2_with fail
                exact ⟨⟨b + 1, far, t, by have := HBM.out; omega, by go_num, B1, Q0, F0⟩, by have := HBM.out; simp [intOf]; omega⟩
              | true =>
                by_cases hf : fb' = -1
                · have hfb : (fb' == -1) = true := by simp [hf]
                  have B1 := Kp.mk (HPU.out HLK.out hf)
                  have Q2 : Kp (OwnQ ((wr.setCell ⟨F, b, none⟩ (.int .i64 (fh + 1))).alloc (.cells #[.int .i64 b] 3)) A F u7 (qs (h :: t))) := ⟨(Q0.out.keep (fun k _ hne => Below.heap_setCell _ _ _ _ hne)).keep (fun k hk _ => heap_alloc_old _ _ hk)⟩
                  have F2 : Kp (FarIs A F n cf (far.set b (fh + 1)) w ((wr.setCell ⟨F, b, none⟩ (.int .i64 (fh + 1))).alloc (.cells #[.int .i64 b] 3))) := ⟨HFS.out.keep (more (Below.refl _ _) _)⟩
                  clear hf HSK HPU HFS Q0 F0 B0
                  go_wp2_with (at_builtin; refine wpList_append_q rfl (.tmp 65) (.tmp 67) rfl rfl Q2.out (by have := F2.out.lt; omega) F2.out.lt.2 b ⟨wr.heap.size, 0, none⟩ 1 rfl ?c1 HQL.out ?_)
                  case c1 => exact (Blk.newAt _ (by simp)).cell 0
                  · intro v' w4 hq4 hg4
                    have F4 := Kp.mk (F2.out.grown Q2.out hg4)
                    have Q4 : Kp (OwnQ w4 A F v' (qs (h :: (t ++ [b])))) := ⟨by simpa [qs] using hq4⟩
                    clear hq4 hg4
                    go_wp2_with fail
                    exact ⟨⟨b + 1, _, t ++ [b], by have := HBM.out; omega, by go_num, B1, Q4, F4⟩, by have := HBM.out; simp [intOf]; omega⟩
                · have hfb : (fb' == -1) = false := by simp [hf]
                  have B1 := Kp.mk (HSK.out (.inr hf))
                  clear hf HSK HPU HFS
                  go_wp2_with fail
                  exact ⟨⟨b + 1, far, t, by have := HBM.out; omega, by go_num, B1, Q0, F0⟩, by have := HBM.out; simp [intOf]; omega⟩
            · obtain rfl : b = n := by omega
              have B1 := Kp.mk (B0.out.pop (fun y hy hl => HM.out.2.2 y (by rw [HN.out]; exact hy) (HLN.out y hy hl)))
              have HGK : Kp (gk - 1 < gk) := ⟨by have := B0.out.meas; simp at this; omega⟩
              obtain ⟨g2, o2, cap2, rfl, hcap2⟩ := Q0.out.shape
              have Q1 := Kp.mk Q0.out.tail
              simp only [qs, List.map_cons, List.length_cons, List.length_map] at hcap2 Q1 ⊢
              have t8 : (1 : Int) ≤ (t.length : Int) + 1 := by omega
              clear Q0
              by_cases hc : cap2 = 1
              · subst hc
                rw [if_pos rfl] at Q1
                obtain rfl : t = [] := List.eq_nil_of_length_eq_zero (by omega)
                go_wp2_with fail
                go_roundg (gk - 1)
                case measure => exact HGK.out
                case rel => exact ⟨[], far, B1, Q1, F0, ⟨by have := GK.out; omega⟩⟩
              · rw [if_neg hc] at Q1
                go_wp2_with fail
                go_roundg (gk - 1)
                case measure => exact HGK.out
                case rel => exact ⟨t, far, B1, Q1, F0, ⟨by have := GK.out; omega⟩⟩
  · have hdf : decide (0 ≤ dest ∧ dest < (n : Int)) = false := by simpa using hd
    rw [hdf]
    have HD := Kp.mk hd
    clear hdf hd
    go_wp2_with fail
    go_ret
    exact ⟨_, List.replicate n (-1), ⟨by rw [← HN.out]; simp, fun h3 h4 => absurd ⟨h3, by rw [HN.out]; exact h4⟩ HD.out, fun _ => by rw [← HN.out]⟩, rfl, by rw [← HAe.out]; simpa using HO.out, by rw [← HAe.out]; exact E0.out⟩
theorem ofRowI2 {w : World} {B : Nat} {v : Value} {l : List Int} (h : w.ownsRow B 3 1 v l.length (ivs l)) : HoldsF ic 1 w w.heap.size v l := ofRowI h
set_option maxRecDepth 100000 in
set_option maxHeartbeats 3200000 in
theorem fibFar_walk (a0 : Option Addr) (len0 cap0 : Nat) (z0 : List (List Bool)) (x1 : Int) (w : World)
    (f0 : GridIs w w.heap.size (.slice a0 len0 cap0) z0) (_w1 : (Lit.int .i64 x1).wf = true) :
    Calls Try.prog 6 #[.slice a0 len0 cap0, .int .i64 x1] w fun r w' => r = .returned (.bool true) ∧ Below w.heap.size w w' := by
  obtain rfl : len0 = z0.length := by obtain ⟨⟨_, _, h⟩, _⟩ := f0.shape; cases h; rfl
  have hlm : z0.length ≤ 9223372036854775807 := by have := f0.shape.2; unfold maxLen at this; omega
  have K0 := Kp.mk f0
  clear f0 _w1
  obtain ⟨M, hM⟩ : ∃ M, M = w.heap.size := ⟨_, rfl⟩
  rw [← hM] at K0
  have HM := Kp.mk hM
  clear hM
  go_enter Try.func6, Try.ntmps6
  go_upto_if 7 with (fail)
  go_cut [0] (fun v wx => Kp (∃ L : List (List Bool), L.length ≤ 10 ∧ GridIs w M v L) ∧ wx = w)
  case first =>
    by_cases h8 : 10 < z0.length
    · have hT := K0.out.take (m := 10) (by omega)
      have h8c : 10 ≤ cap0 := hT.2
      have HTT := Kp.mk hT.1
      have HT8 : Kp ((z0.take 10).length ≤ 10) := ⟨by simp; omega⟩
      clear hT
      go_wp2_with fail
      go_meet
      case rel => exact ⟨⟨_, HT8.out, HTT.out⟩, rfl⟩
    · go_wp2_with fail
      go_meet
      case rel => exact ⟨⟨z0, by omega, K0.out⟩, rfl⟩
  case rest =>
    obtain ⟨HF, rfl⟩ := hcut
    clear K0
    obtain ⟨L, hT, hV⟩ := HF.out
    have HV := Kp.mk hV
    have HT := Kp.mk hT
    clear hV hT HF
    go_wp2_with fail
    refine (awake_any _).mono ?_
    rintro r w1 ⟨rfl, hb⟩
    have E1 : Kp (Below wc.heap.size wc w1) := ⟨hb⟩
    clear hb
    go_wp2_with fail
    refine (far_any L x1 M _ _ (HV.out.below E1.out) HT.out).mono ?_
    rintro r w2 ⟨v1, far1, ok1, rfl, o1, hb⟩
    have E2 : Kp (Below wc.heap.size wc w2) := ⟨E1.out.trans (hb.mono E1.out.size)⟩
    have O1 := Kp.mk (ofRowI o1)
    have K1 := Kp.mk ok1
    clear hb o1 ok1 E1
    go_wp2_with fail
    refine (rfar_any L x1 M _ _ (HV.out.below E2.out) HT.out).mono ?_
    rintro r w3 ⟨v2, far2, ok2, rfl, o2, hb⟩
    have E3 : Kp (Below wc.heap.size wc w3) := ⟨E2.out.trans (hb.mono E2.out.size)⟩
    replace O1 := Kp.mk (O1.out.below hb)
    have O2 := Kp.mk (ofRowI o2)
    have ee := K1.out.uniq ok2
    rw [← ee] at O2
    clear hb o2 ok2 E2 ee
    go_wp2_with fail
    refine (sameInts_any far1 _ _ v1 v2 _ O1.out O2.out).mono ?_
    rintro r w4 ⟨rfl, k4, rfl⟩
    have E4 : Kp (Below wc.heap.size wc (w3.drewN k4)) := ⟨E3.out.trans ((below_drewN _ k4).mono E3.out.size)⟩
    clear E3 O1 O2
    go_wp2_with fail
    go_ret
    exact ⟨rfl, E4.out⟩
theorem row_grid {H : Type} {enc : TypeId × Value → H} {W : World} {a : Option Addr} {len cap : Nat} {d : DataW H} {p : List MemPlace}
    (k : DataW.Trod enc Try.prog W 0 (fun _ => true) true 49 (.slice a len cap) d p) : ∃ L, GridIs W W.heap.size (.slice a len cap) L := by
  obtain ⟨vs, h, hQ⟩ := row_open (f := vc) (Q := fun v => ∃ l, HoldsF bc 1 W W.heap.size v l) (fun _ => rfl) (by decide : 0 < 1) Try.underlying49 cells61 (fun cs x fuel h1 h2 => by
    obtain ⟨a, n, c, d, p, rfl, hk⟩ := slice_each Try.underlying61 h2
    obtain ⟨l, hl, _⟩ := row_open (f := bc) (Q := fun _ => True) (fun _ => rfl) (by decide : 0 < 1) Try.underlying61 cells4 (fun cs x fuel h1 h2 => by
      obtain ⟨e, e0, _⟩ := DataW.trod_bool Try.underlying4 h2
      exact ⟨e, e0, trivial⟩) hk
    exact ⟨_, rfl, l, hl⟩) k
  have each : ∀ i, i < vs.length → ∃ l, HoldsF bc 1 W W.heap.size (vs.getD i default) l := fun i hi => hQ _ (by rw [← gd hi]; exact List.getElem_mem hi)
  obtain ⟨g, hg⟩ := Go.Deep.choose_lt each
  refine ⟨(List.range vs.length).map g, vs, by simp, h, fun i hi => ?_⟩
  have hi' : i < vs.length := by simpa using hi
  rw [show ((List.range vs.length).map g).getD i default = g i by rw [← gd hi]; simp]
  exact hg i hi'
end Go.Proofs.Ytkeoebldadpoiaa
