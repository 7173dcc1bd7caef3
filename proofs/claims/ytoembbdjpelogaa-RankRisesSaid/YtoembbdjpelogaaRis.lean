/-
  The walk of the law RankRises.
-/
import Derived.Test.YtoembbdjpelogaaFloN
namespace Go.Proofs.Ytoembbdjpelogaa
open Go.RowKit Go.Maps

/-- What holds of the memory, round by round. -/
structure RS (w wr : World) (A n : Nat) (F G : Int → Option K3) : Prop where
  m1 : MapIs wr A n F
  m2 : MapIs wr (A + 2) n G
  bf : Blk wr (A + 1) (floObj A)
  be : Below A w wr
  sz : A + 3 ≤ wr.heap.size
theorem RS.keep {w wr wr' : World} {A n : Nat} {F G : Int → Option K3} (h : RS w wr A n F G) (hb : Below wr.heap.size wr wr') : RS w wr' A n F G :=
  ⟨h.m1.keep hb, h.m2.keep hb, h.bf.keep hb, h.be.trans (hb.mono (by have := h.sz; omega)), Nat.le_trans h.sz hb.size⟩
theorem RS.alloc {w wr : World} {A n : Nat} {F G : Int → Option K3} (h : RS w wr A n F G) (o : Obj) : RS w (wr.alloc o) A n F G := h.keep (more (Below.refl _ _) o)
theorem RS.grow1 {w wr wr' : World} {A n n' : Nat} {F F' G : Int → Option K3} (h : RS w wr A n F G) (hm : MapIs wr' A n' F') (hn : n ≤ n') (hg : wr.grownBy wr' (some A)) : RS w wr' A n' F' G :=
  ⟨hm, (h.m2.block (hg.block _ h.m2.lt (by simp))).mono hn, (hg.block _ h.bf.lt (by simp)).trans h.bf, h.be.grown hg (by have := h.sz; omega) (fun k hk => by injection hk with hk; omega), Nat.le_trans h.sz hg.size⟩
theorem RS.grow2 {w wr wr' : World} {A n n' : Nat} {F G G' : Int → Option K3} (h : RS w wr A n F G) (hm : MapIs wr' (A + 2) n' G') (hn : n ≤ n') (hg : wr.grownBy wr' (some (A + 2))) : RS w wr' A n' F G' :=
  ⟨(h.m1.block (hg.block _ h.m1.lt (by simp))).mono hn, hm, (hg.block _ h.bf.lt (by simp)).trans h.bf, h.be.grown hg (by have := h.sz; omega) (fun k hk => by injection hk with hk; omega), Nat.le_trans h.sz hg.size⟩

theorem MapIs.look {w : World} {M n : Nat} {F : Int → Option K3} {d : Int} (h : MapIs w M n F) (hd : (dkey d).wf = true) : (Instr.lookup 70 (.map (some M)) (.int .i64 d) false).run Try.prog w = .ok (agg3 ((F d).getD (0, 0, 0))) w := by
  obtain ⟨D, ho, _, hF⟩ := h
  obtain ⟨v, ps, hrun, hv⟩ := ho.lookup law3' Try.underlying70 (zero26 w) (keyElem_mk (0, 0, 0)) (dkey_of hd)
  rw [(hF d hd).2] at hv
  rw [hrun, keyElem_inv hv]
theorem MapIs.look_ok {w : World} {M n : Nat} {F : Int → Option K3} {d : Int} (h : MapIs w M n F) (hd : (dkey d).wf = true) : (Instr.lookup 70 (.map (some M)) (.int .i64 d) true).run Try.prog w = .ok (.tuple #[agg3 ((F d).getD (0, 0, 0)), .bool (F d).isSome]) w := by
  obtain ⟨D, ho, _, hF⟩ := h
  obtain ⟨v, ps, hrun, hv⟩ := ho.look_ok law3' Try.underlying70 (zero26 w) (keyElem_mk (0, 0, 0)) (dkey_of hd)
  rw [(hF d hd).2] at hv
  rw [hrun, keyElem_inv hv, (hF d hd).1]
theorem MapIs.upd {w : World} {M n : Nat} {F : Int → Option K3} {d : Int} (h : MapIs w M n F) (hd : (dkey d).wf = true) (hn : n < maxLen) (x : K3) :
    ∃ w', (Instr.mapUpdate 70 (.map (some M)) (.int .i64 d) (agg3 x)).run Try.prog w = .ok () w' ∧ MapIs w' M (n + 1) (updF F d x) ∧ w.grownBy w' (some M) := by
  obtain ⟨D, ho, hD, hF⟩ := h
  obtain ⟨w', hrun, ho', hg⟩ := ho.update law3' Try.underlying70 hn (dkey_of hd) (keyElem_mk x)
  exact ⟨w', hrun, MapIs.put hd hD hF ho', hg⟩
theorem cmp3_self (x : K3) : cmp3 x x = 0 := by unfold cmp3 compareI; repeat' split <;> omega
theorem updF_at (F : Int → Option K3) (d : Int) (x : K3) : updF F d x d = some x := by simp [updF]

theorem more' {B : Nat} {w wa : World} (h : Below B w wa) (hs : B ≤ wa.heap.size) (o : Obj) : Below B w (wa.alloc o) := h.alloc hs o
theorem blk_grow {w w' : World} {b M : Nat} {o : Obj} (h : Blk w b o) (hg : w.grownBy w' (some M)) (hne : b ≠ M) : Blk w' b o := (hg.block b h.lt (by simpa using hne)).trans h
abbrev stepObj (d : Int) (x : K3) : Obj := .cells #[.int .i64 d, .int .u32 x.1, .int .u32 x.2.1, .int .i64 x.2.2] 56
abbrev k26 (x : K3) : Obj := .cells #[.int .u32 x.1, .int .u32 x.2.1, .int .i64 x.2.2] 26

set_option maxRecDepth 100000 in
set_option maxHeartbeats 6400000 in
theorem rankRises_walk (a : Option Addr) (len cap : Nat) (f : Nat → Int × K3) (w : World) (hs : IsSteps w a len f) :
    Calls Try.prog 9 #[.slice a len cap] w fun r w' => r = .returned (.bool true) ∧ Below w.heap.size w w' := by
  obtain ⟨hl, hs⟩ := hs
  have HL := Lib.hid hl
  unfold maxLen at hl
  have HC := Lib.hid hs
  clear hs
  have hmm := @run_makeMap Try.prog
  go_enter Try.func9, Try.ntmps9
  go_wp2_with fail
  refine (newF_any _).mono ?_
  rintro r w1 ⟨rfl, rfl⟩
  have hrs : RS w (((w.alloc (Obj.map #[] 0)).alloc (floObj w.heap.size)).alloc (Obj.map #[] 0)) w.heap.size 0 (fun _ => none) (fun _ => none) := by
    have e : ((w.alloc (Obj.map #[] 0)).alloc (floObj w.heap.size)).heap.size = w.heap.size + 2 := by simp
    have h2 := MapIs.made ((w.alloc (Obj.map #[] 0)).alloc (floObj w.heap.size))
    rw [e] at h2
    exact ⟨((MapIs.made w).keep (more (Below.refl _ _) _)).keep (more (Below.refl _ _) _), h2, (Blk.newAt _ (by simp)).old _, more (more (more (Below.refl _ _) _) _) _, by simp⟩
  have HRS := Lib.hid hrs
  clear hrs
  go_wp2_with fail
  revert HRS
  generalize ((w.alloc (Obj.map #[] 0)).alloc (floObj w.heap.size)).alloc (Obj.map #[] 0) = W0
  generalize hA : w.heap.size = A at HC ⊢
  have HA := Lib.hid hA
  clear hA
  intro HRS
  go_loopw [6, 7, 8, 9, 10, 11, 12, 13, 14, 15, 25] (fun _ _ _ _ _ _ _ _ _ _ c wr => ∃ i : Nat, ∃ F, i ≤ len ∧ c = .int .i64 i ∧ RS w wr A i F F) (fun _ _ _ _ _ _ _ _ _ _ c _ => len - (intOf c).toNat)
  case atStart => exact ⟨0, _, by omega, rfl, HRS.out⟩
  case round =>
    obtain ⟨i, F, hi, rfl, hrs⟩ := hrel
    have HR0 := Lib.hid hrs
    clear hrs
    by_cases hlt : i < len
    · obtain ⟨b, off, rfl, hbA, hc⟩ := HC.out (by omega)
      obtain ⟨h0, h1, h2, h3, hd⟩ := hc i hlt
      have d0 := (HR0.out.be.cell (p := ⟨b, off + i * 4, none⟩) hbA).trans h0
      have d1 := (HR0.out.be.cell (p := ⟨b, off + i * 4 + 1, none⟩) hbA).trans h1
      have d2 := (HR0.out.be.cell (p := ⟨b, off + i * 4 + 2, none⟩) hbA).trans h2
      have d3 := (HR0.out.be.cell (p := ⟨b, off + i * 4 + 3, none⟩) hbA).trans h3
      clear hc h0 h1 h2 h3
      generalize (f i).1 = d at d0 hd
      generalize (f i).2 = x at d1 d2 d3
      go_wp2_with fail
      refine (to_any _ _ _ _).mono ?_
      rintro r w1 ⟨rfl, hb⟩
      have HR1 := Lib.hid (((HR0.out.alloc (stepObj d x)).keep hb).alloc (k26 x))
      have BO1 := ((Blk.new wr (stepObj d x)).keep hb).old (k26 x)
      have BK1 := Blk.new w1 (k26 x)
      have hO : wr.heap.size < w1.heap.size := by have := hb.size; simp at this; omega
      have hAO : A + 3 ≤ wr.heap.size := HR0.out.sz
      clear hb d0 d1 d2 d3
      obtain ⟨o0, o1, o2, o3, -⟩ := BO1.four
      have lO := BO1.lt
      go_wp2_with fail
      refine (get_any (A + 1) A i F d _ HR1.out.bf HR1.out.m1 hd).mono ?_
      rintro r w2 ⟨rfl, hb⟩
      have HR2 := Lib.hid ((HR1.out.keep hb).alloc (k26 ((F d).getD (0, 0, 0))))
      have BO2 := (BO1.keep hb).old (k26 ((F d).getD (0, 0, 0)))
      have BK2 := (BK1.keep hb).old (k26 ((F d).getD (0, 0, 0)))
      have BW2 := Blk.new w2 (k26 ((F d).getD (0, 0, 0)))
      have hK : w1.heap.size < w2.heap.size := by have := hb.size; simp at this; omega
      clear hb o0 o1 o2 o3 lO BO1 BK1
      obtain ⟨o0, o1, o2, o3, -⟩ := BO2.four
      obtain ⟨k0, k1, k2, -⟩ := BK2.three
      have lO := BO2.lt
      have lK := BK2.lt
      go_wp2_with fail
      refine (raise_any (A + 1) A i F d x _ HR2.out.bf HR2.out.m1 hd (by have := HL.out; omega)).mono ?_
      rintro r w3 ⟨rfl, hm3, hg3⟩
      have HR3 := Lib.hid (HR2.out.grow1 hm3 (Nat.le_succ i) hg3)
      have HM2 := Lib.hid (HR2.out.m2.block (hg3.block _ HR2.out.m2.lt (by simp)))
      have BO3 := blk_grow BO2 hg3 (by omega)
      have BK3 := blk_grow BK2 hg3 (by omega)
      have BW3 := blk_grow BW2 hg3 (by omega)
      have hAK : w2.heap.size < w3.heap.size := by have := hg3.size; simp at this; omega
      clear hm3 hg3 o0 o1 o2 o3 k0 k1 k2 lO lK BO2 BK2 BW2
      have HR3g : Hid (RS w w3 A (i + 1) (raiseF F d x) F) := HR3
      by_cases hg : (decide (0 ≤ d ∧ d < 8) && rightB x.1 x.2.1 x.2.2) = true
      · have q2 : raiseE d x = 0 := by unfold raiseE; rw [hg]; rfl
        have hU : raiseU F d x = !((F d).isSome && decide (cmp3 x ((F d).getD (0, 0, 0)) ≤ 0)) := by unfold raiseU; rw [hg]; rfl
        rw [q2]
        clear q2 hg
        have hlk := HR3g.out.m2.look_ok hd
        have hnn : i < maxLen := by have := HL.out; omega
        rcases hFd : F d with _ | y
        · have q1 : raiseU F d x = true := by rw [hU, hFd]; rfl
          have q3 : raiseF F d x = updF F d x := by unfold raiseF; rw [q1]; rfl
          rw [q1]
          rw [q3] at HR3g
          rw [hFd] at hlk
          simp only [Option.getD_none, Option.isSome_none] at hlk
          obtain ⟨w5, hup, hm5, hg5⟩ := ((HM2.out.keep (more (Below.refl _ _) (k26 (0, 0, 0))))).upd hd hnn x
          have HR5 := Lib.hid ((HR3g.out.alloc (k26 (0, 0, 0))).grow2 hm5 (Nat.le_refl _) hg5)
          have BO5 := blk_grow (BO3.old (k26 (0, 0, 0))) hg5 (by omega)
          have BK5 := blk_grow (BK3.old (k26 (0, 0, 0))) hg5 (by omega)
          have BW5 := blk_grow (BW3.old (k26 (0, 0, 0))) hg5 (by omega)
          obtain ⟨o0, o1, o2, o3, -⟩ := BO3.four
          obtain ⟨k0, k1, k2, -⟩ := BK3.three
          have lO := BO3.lt
          have lK := BK3.lt
          have p0 := BO5.cell 0
          have HG := Lib.hid hg5
          have HFd := Lib.hid hFd
          clear hm5 hg5 hU q1 q3 HM2 HR3 HR3g HR0 HR1 HR2 hFd
          go_wp2_with fail
          refine (get_any (A + 1) A (i + 1) (updF F d x) d _ HR5.out.bf HR5.out.m1 hd).mono ?_
          rintro r w6 ⟨rfl, hb⟩
          rw [updF_at]
          simp only [Option.getD_some, Option.isSome_some]
          have HR6 := Lib.hid ((HR5.out.keep hb).alloc (k26 x))
          have BO6 := (BO5.keep hb).old (k26 x)
          have BW6 := (BW5.keep hb).old (k26 x)
          have BN6 := Blk.new w6 (k26 x)
          have hl2 := HR6.out.m2.look hd
          rw [updF_at] at hl2
          simp only [Option.getD_some] at hl2
          clear hb o0 o1 o2 o3 k0 k1 k2 lO lK p0 hlk hup BO3 BK3 BW3 BO5 BK5 BW5
          obtain ⟨o0, o1, o2, o3, -⟩ := BO6.four
          obtain ⟨s0, s1, s2, -⟩ := BW6.three
          obtain ⟨n0, n1, n2, -⟩ := BN6.three
          have lO := BO6.lt
          have lS := BW6.lt
          have lN := BN6.lt
          have hmy : mayF (updF F d x) d x = true := by
            unfold mayF
            rw [updF_at]
            simp [cmp3_self]
          go_wp2_with fail
          refine (may_any (A + 1) A (i + 1) (updF F d x) d x _ HR6.out.bf HR6.out.m1 hd).mono ?_
          rintro r w7 ⟨rfl, hb⟩
          rw [hmy]
          have HR7 := Lib.hid (HR6.out.keep hb)
          clear hb
          go_wp2_with fail
          exact ⟨⟨i + 1, updF F d x, by omega, by go_num, HR7.out⟩, by simp [intOf]; omega⟩
        · rw [hFd] at hlk BW3
          simp only [Option.getD_some, Option.isSome_some] at hlk BW3
          by_cases hcmp : cmp3 x y ≤ 0
          · have q1 : raiseU F d x = false := by rw [hU, hFd]; simp [hcmp]
            have q3 : raiseF F d x = F := by unfold raiseF; rw [q1]; rfl
            have hcmp' : compareI x.1 x.2.1 x.2.2 y.1 y.2.1 y.2.2 ≤ 0 := hcmp
            have hcs : compareI y.1 y.2.1 y.2.2 y.1 y.2.1 y.2.2 = 0 := cmp3_self y
            rw [q1]
            rw [q3] at HR3g
            obtain ⟨o0, o1, o2, o3, -⟩ := BO3.four
            obtain ⟨k0, k1, k2, -⟩ := BK3.three
            have lO := BO3.lt
            have lK := BK3.lt
            go_wp2_with fail
            refine (compare_any _ _ _ _ _ _ _).mono ?_
            rintro r w4 ⟨rfl, hb4⟩
            have BO4 := (BO3.old (k26 y)).keep hb4
            have BK4 := (BK3.old (k26 y)).keep hb4
            have BW4 := (BW3.old (k26 y)).keep hb4
            clear o0 o1 o2 o3 k0 k1 k2 lO lK
            obtain ⟨o0, o1, o2, o3, -⟩ := BO4.four
            obtain ⟨k0, k1, k2, -⟩ := BK4.three
            have lO := BO4.lt
            have lK := BK4.lt
            have HR5 := Lib.hid ((HR3g.out.alloc (k26 y)).keep hb4)
            have BO5 := BO4
            have BW5 := BW4
            have p0 := BO5.cell 0
            go_wp2_with fail
            refine (get_any (A + 1) A (i + 1) (F) d _ HR5.out.bf HR5.out.m1 hd).mono ?_
            rintro r w6 ⟨rfl, hb⟩
            rw [hFd]
            simp only [Option.getD_some, Option.isSome_some]
            have HR6 := Lib.hid ((HR5.out.keep hb).alloc (k26 y))
            have BO6 := (BO5.keep hb).old (k26 y)
            have BW6 := (BW5.keep hb).old (k26 y)
            have BN6 := Blk.new w6 (k26 y)
            have hl2 := HR6.out.m2.look hd
            rw [hFd] at hl2
            simp only [Option.getD_some] at hl2
            clear hb o0 o1 o2 o3 k0 k1 k2 lO lK p0 hlk BO3 BK3 BW3 BO4 BK4 BW4 BO5 BW5 hb4
            obtain ⟨o0, o1, o2, o3, -⟩ := BO6.four
            obtain ⟨s0, s1, s2, -⟩ := BW6.three
            obtain ⟨n0, n1, n2, -⟩ := BN6.three
            have lO := BO6.lt
            have lS := BW6.lt
            have lN := BN6.lt
            have hmy : mayF (F) d y = true := by
              unfold mayF
              rw [hFd]
              simp [cmp3_self]
            go_wp2_with fail
            refine (compare_any _ _ _ _ _ _ _).mono ?_
            rintro r w7 ⟨rfl, hb⟩
            have HR7 := Lib.hid (HR6.out.keep hb)
            have BN7 := BN6.keep hb
            have BW7 := BW6.keep hb
            have BO7 := BO6.keep hb
            clear hb o0 o1 o2 o3 s0 s1 s2 n0 n1 n2 lO lS lN BN6 BW6 BO6
            obtain ⟨o0, o1, o2, o3, -⟩ := BO7.four
            obtain ⟨s0, s1, s2, -⟩ := BW7.three
            obtain ⟨n0, n1, n2, -⟩ := BN7.three
            have lO := BO7.lt
            have lS := BW7.lt
            have lN := BN7.lt
            go_wp2_with fail
            refine (may_any (A + 1) A (i + 1) (F) d y _ HR7.out.bf HR7.out.m1 hd).mono ?_
            rintro r w8 ⟨rfl, hb⟩
            rw [hmy]
            have HR8 := Lib.hid (HR7.out.keep hb)
            clear hb
            go_wp2_with fail
            exact ⟨⟨i + 1, F, by omega, by go_num, HR8.out⟩, by simp [intOf]; omega⟩
          · have q1 : raiseU F d x = true := by rw [hU, hFd]; simp; omega
            have q3 : raiseF F d x = updF F d x := by unfold raiseF; rw [q1]; rfl
            have HXY : Hid (x.1 = y.1 → x.2.1 = y.2.1 → x.2.2 = y.2.2 → False) := by
              intro e1 e2 e3
              have : x = y := by
                obtain ⟨x1, x2, x3⟩ := x
                obtain ⟨y1, y2, y3⟩ := y
                simp at e1 e2 e3
                simp [e1, e2, e3]
              subst this
              exact hcmp (by rw [cmp3_self]; omega)
            have hcmp' : 0 < compareI x.1 x.2.1 x.2.2 y.1 y.2.1 y.2.2 := by
              have : 0 < cmp3 x y := by omega
              exact this
            rw [q1]
            rw [q3] at HR3g
            obtain ⟨o0, o1, o2, o3, -⟩ := BO3.four
            obtain ⟨k0, k1, k2, -⟩ := BK3.three
            have lO := BO3.lt
            have lK := BK3.lt
            go_wp2_with fail
            refine (compare_any _ _ _ _ _ _ _).mono ?_
            rintro r w4 ⟨rfl, hb4⟩
            have BO4 := (BO3.old (k26 y)).keep hb4
            have BK4 := (BK3.old (k26 y)).keep hb4
            have BW4 := (BW3.old (k26 y)).keep hb4
            clear o0 o1 o2 o3 k0 k1 k2 lO lK
            obtain ⟨o0, o1, o2, o3, -⟩ := BO4.four
            obtain ⟨k0, k1, k2, -⟩ := BK4.three
            have lO := BO4.lt
            have lK := BK4.lt
            obtain ⟨w5, hup, hm5, hg5⟩ := ((HM2.out.keep (more (Below.refl _ _) (k26 y))).keep hb4).upd hd hnn x
            have HR5 := Lib.hid (((HR3g.out.alloc (k26 y)).keep hb4).grow2 hm5 (Nat.le_refl _) hg5)
            have BO5 := blk_grow BO4 hg5 (by omega)
            have BW5 := blk_grow BW4 hg5 (by omega)
            clear hm5 hg5
            have p0 := BO5.cell 0
            go_wp2_with fail
            refine (get_any (A + 1) A (i + 1) (updF F d x) d _ HR5.out.bf HR5.out.m1 hd).mono ?_
            rintro r w6 ⟨rfl, hb⟩
            rw [updF_at]
            simp only [Option.getD_some, Option.isSome_some]
            have HR6 := Lib.hid ((HR5.out.keep hb).alloc (k26 x))
            have BO6 := (BO5.keep hb).old (k26 x)
            have BW6 := (BW5.keep hb).old (k26 x)
            have BN6 := Blk.new w6 (k26 x)
            have hl2 := HR6.out.m2.look hd
            rw [updF_at] at hl2
            simp only [Option.getD_some] at hl2
            clear hb o0 o1 o2 o3 k0 k1 k2 lO lK p0 hlk hup BO3 BK3 BW3 BO4 BK4 BW4 BO5 BW5 hb4
            obtain ⟨o0, o1, o2, o3, -⟩ := BO6.four
            obtain ⟨s0, s1, s2, -⟩ := BW6.three
            obtain ⟨n0, n1, n2, -⟩ := BN6.three
            have lO := BO6.lt
            have lS := BW6.lt
            have lN := BN6.lt
            have hmy : mayF (updF F d x) d x = true := by
              unfold mayF
              rw [updF_at]
              simp [cmp3_self]
            go_wp2_with fail
            refine (compare_any _ _ _ _ _ _ _).mono ?_
            rintro r w7 ⟨rfl, hb⟩
            generalize compareI x.1 x.2.1 x.2.2 y.1 y.2.1 y.2.2 = cv at hcmp' ⊢
            have HR7 := Lib.hid (HR6.out.keep hb)
            have BN7 := BN6.keep hb
            have BW7 := BW6.keep hb
            have BO7 := BO6.keep hb
            clear hb o0 o1 o2 o3 s0 s1 s2 n0 n1 n2 lO lS lN BN6 BW6 BO6
            obtain ⟨o0, o1, o2, o3, -⟩ := BO7.four
            obtain ⟨s0, s1, s2, -⟩ := BW7.three
            obtain ⟨n0, n1, n2, -⟩ := BN7.three
            have lO := BO7.lt
            have lS := BW7.lt
            have lN := BN7.lt
            go_wp2_with fail
            · rename_i e1 e2 e3
              exact (HXY.out e1 e2 e3).elim
            · have e1 : x.1 = y.1 := by with_reducible assumption
              have e2 : x.2.1 = y.2.1 := by with_reducible assumption
              rw [← e1, ← e2]
              refine (may_any (A + 1) A (i + 1) (updF F d x) d x _ HR7.out.bf HR7.out.m1 hd).mono ?_
              rintro r w8 ⟨rfl, hb⟩
              rw [hmy]
              have HR8 := Lib.hid (HR7.out.keep hb)
              clear hb
              go_wp2_with fail
              exact ⟨⟨i + 1, updF F d x, by omega, by go_num, HR8.out⟩, by simp [intOf]; omega⟩
            · have e1 : x.1 = y.1 := by with_reducible assumption
              rw [← e1]
              refine (may_any (A + 1) A (i + 1) (updF F d x) d x _ HR7.out.bf HR7.out.m1 hd).mono ?_
              rintro r w8 ⟨rfl, hb⟩
              rw [hmy]
              have HR8 := Lib.hid (HR7.out.keep hb)
              clear hb
              go_wp2_with fail
              exact ⟨⟨i + 1, updF F d x, by omega, by go_num, HR8.out⟩, by simp [intOf]; omega⟩
            · refine (may_any (A + 1) A (i + 1) (updF F d x) d x _ HR7.out.bf HR7.out.m1 hd).mono ?_
              rintro r w8 ⟨rfl, hb⟩
              rw [hmy]
              have HR8 := Lib.hid (HR7.out.keep hb)
              clear hb
              go_wp2_with fail
              exact ⟨⟨i + 1, updF F d x, by omega, by go_num, HR8.out⟩, by simp [intOf]; omega⟩
      · have hg' : (decide (0 ≤ d ∧ d < 8) && rightB x.1 x.2.1 x.2.2) = false := by simpa using hg
        have q1 : raiseU F d x = false := by unfold raiseU; rw [hg']; rfl
        have q2 : raiseE d x = 1 := by unfold raiseE; rw [hg']; rfl
        have q3 : raiseF F d x = F := by unfold raiseF; rw [q1]; rfl
        rw [q1, q2]
        rw [q3] at HR3g
        clear hg hg' q1 q2 q3
        go_wp2_with fail
        exact ⟨⟨i + 1, F, by omega, by go_num, HR3g.out⟩, by simp [intOf]; omega⟩
    · go_wp2_with fail
      refine (raise_nil 1 (0, 0, 0) _).mono ?_
      rintro r w1 ⟨rfl, hb⟩
      have E1 := HR0.out.be.trans (hb.mono (by have := HR0.out.sz; omega))
      have S1 := hb.size
      clear hb
      go_wp2_with fail
      refine (get_nil 1 _).mono ?_
      rintro r w2 ⟨rfl, hb⟩
      have E2 := more' (E1.trans (hb.mono (by have := HR0.out.sz; omega))) (by have := HR0.out.sz; have := hb.size; omega) (k26 (0, 0, 0))
      have S2 : A ≤ w2.heap.size := by have := HR0.out.sz; have := hb.size; omega
      clear hb
      go_wp2_with fail
      refine (may_nil 1 (0, 0, 0) _).mono ?_
      rintro r w3 ⟨rfl, hb⟩
      have E3 := E2.trans (hb.mono (by simp; omega))
      have S3 : A ≤ w3.heap.size := by have := hb.size; simp at this; omega
      clear hb
      go_wp2_with fail
      refine (dests_nil _).mono ?_
      rintro r w4 ⟨rfl, hb⟩
      have E4 := E3.trans (hb.mono S3)
      clear hb
      go_wp2_with fail
      go_ret
      exact ⟨rfl, by rw [HA.out]; exact E4⟩
end Go.Proofs.Ytoembbdjpelogaa
