/-
  A joiner beside a row of pieces.
-/
import Derived.Test.YtlgcpfeaecpocaaPjD
import Derived.Test.YtlgcpfeaecpocaaPcL
import Derived.Deep.RegionHeld3
namespace Go.Proofs.Ytlgcpfeaecpocaa
open Go.RowKit

theorem JIs.any {w : World} {g q q' : Nat} {J : PjM} (h : JIs w g q J) (h0 : J.ps.length = 0) : JIs w g q' J := by
  refine ⟨?_, fun h1 => absurd h1 (by omega), h.t, h.n, h.i⟩
  have := h.b
  rw [h0] at this ⊢
  exact this
structure JW (w : World) (g q Q : Nat) (J : PjM) (l : List PcV) (W : World) : Prop where
  j : JIs W g q J
  p : PRow W Q l
  b : Below w.heap.size w W
  hq : q = g ∨ 0 < J.ps.length
  hg : w.heap.size ≤ g
  hqb : w.heap.size ≤ q
theorem JW.keep {w W W' : World} {g q Q : Nat} {J : PjM} {l : List PcV} (h : JW w g q Q J l W) (hb : Below W.heap.size W W') : JW w g q Q J l W' := ⟨h.j.keep hb, h.p.keep hb, h.b.trans (hb.mono h.b.size), h.hq, h.hg, h.hqb⟩
theorem JW.step {w W W' : World} {g q q' Q : Nat} {J J' : PjM} {l : List PcV} (h : JW w g q Q J l W) (hs : JStep g q q' J' W W') : ∃ q'', JW w g q'' Q J' l W' := by
  have hp : PRow W' Q l := h.p.jstep h.j h.hq hs
  have hb : Below w.heap.size w W' := h.b.trans (hs.below h.hg h.hqb h.b.size)
  by_cases h0 : J'.ps.length = 0
  · exact ⟨g, hs.is.any h0, hp, hb, .inl rfl, h.hg, h.hg⟩
  · refine ⟨q', hs.is, hp, hb, .inr (by omega), h.hg, ?_⟩
    rcases hs.at_ with e | e
    · rw [e]; exact h.hqb
    · have := h.b.size; omega
theorem JW.put {w W : World} {g q Q i : Nat} {J : PjM} {l : List PcV} (h : JW w g q Q J l W) (hQ : w.heap.size ≤ Q) (hi : i < l.length) (x : PcV) (hx : HoldsB W W.heap.size x.v x.l) : JW w g q Q J (l.set i x) (W.setCells Q (i * 4) [.int .u32 x.id, .int .i64 x.at_, .int .i64 x.many, x.v]) := by
  have hT := turn_piece hi h.p.r x
  have hno := rcells_no (l := l) fun y hy => by obtain ⟨a, n, c, e, -⟩ := (h.p.t y hy).slice; exact ⟨a, n, c, e⟩
  have hg : g ≠ Q := cells_ne h.j.b h.p.r (by decide)
  refine ⟨⟨hT.keep h.j.b hg, fun h0 => hT.keep (h.j.r h0) (cells_ne (h.j.r h0) h.p.r (by decide)), fun y hy => ⟨((h.j.t y hy).1.beside h.p.r hno hT.size fun k hk hne => hT.other k hk hne).mono hT.size, (h.j.t y hy).2⟩, h.j.n, h.j.i⟩, h.p.put x hT hx, h.b.trans (hT.below hQ h.b.size), h.hq, h.hg, h.hqb⟩
theorem JW.at {w W : World} {g q Q i : Nat} {J : PjM} {l : List PcV} (h : JW w g q Q J l W) (hi : i < l.length) : W.rangeAt Q (i * 4) (pcc l[i]) ∧ W.there Q (i * 4) 4 := ⟨h.p.at hi, fun j hj => ⟨(h.p.at hi).isSome j hj, h.p.r.frozen _⟩⟩
theorem idx41 (B o n cap j : Nat) (hj : j < n) (w : World) : (Instr.indexAt 41 (.slice (some ⟨B, o, none⟩) n cap) (.int .i64 j)).run Try.prog w = .ok (.pointer (some ⟨B, o + j * 4, none⟩)) w := by
  go_simp
theorem exec_idx41 {o' : Oper} {a : Act} {w : World} {x y : Operand} {B o n cap j : Nat} {q : Int} (ho : o'.op = .indexAddr 41 x y) (hx : a.eval x = .slice (some ⟨B, o, none⟩) n cap) (hy : a.eval y = .int .i64 q) (hq : q = (j : Nat)) (hj : j < n) :
    (execOp a.eval o').run Try.prog w = .ok (.value (.pointer (some ⟨B, o + j * 4, none⟩))) w := by
  unfold execOp
  subst hq
  simp only [ho, hx, hy, Sem.run_bind, idx41 B o n cap j hj w, Result.andThen_ok, Sem.run_pure]
theorem one4J (n1 n2 n3 : Int) (a : Option Addr) (n c : Nat) : (#[.int .u32 n1, .int .i64 n2, .int .i64 n3, .slice a n c] : Array Value).all (·.oneCell') = true :=
  all_oneCell_toArray (cs := [.int .u32 n1, .int .i64 n2, .int .i64 n3, .slice a n c]) (by intro v hv; simp only [List.mem_cons, List.not_mem_nil, or_false] at hv; rcases hv with rfl | rfl | rfl | rfl <;> rfl)
theorem ex_world {Q : Exit → Act → World → Prop} {x : Exit} {a : Act} {w : World} (F : World → Prop) (hF : F w) (h : ∀ w2, F w2 → Q x a w2) : Q x a w := h w hF
theorem pv_of {x : PcV} {a : Option Addr} {n c : Nat} (h : x.v = .slice a n c) : (⟨x.id, x.at_, x.many, a, n, c⟩ : PV).v = .agg (pcc x).toArray := by
  unfold pcc
  rw [h]
set_option maxRecDepth 100000 in
set_option maxHeartbeats 8000000 in
theorem joins_main (id size : Int) (a : Option Addr) (n cap : Nat) (bl : List Int) (ta ga fa : Option Addr) (tn tc gn gc fn fc : Nat) (tl gl : List Int) (ol : List PcV) (w : World) (hid : 0 ≤ id ∧ id ≤ 4294967295) (h : HoldsB w w.heap.size (.slice a n cap) bl) (ht : IsInts w ta tn tl) (hg : IsInts w ga gn gl) (hf : IsPcs w fa fn ol) (hn : n ≤ 5000) (hm : manyN n (szN size) ≤ 32) :
    Calls Try.prog 6 #[.int .u32 id, .slice a n cap, .int .i64 size, .slice ta tn tc, .slice ga gn gc, .slice fa fn fc] w fun r w' => r = .returned (.bool true) ∧ Below w.heap.size w w' := by
  have hnl : n = bl.length := by
    obtain ⟨a1, n1, c1, e1, e2⟩ := h.slice
    simp only [Value.slice.injEq] at e1
    omega
  have H := Kp.mk h
  have HT := Kp.mk ht
  have HG := Kp.mk hg
  have HF := Kp.mk hf
  have HID := Kp.mk hid
  have hfm : fn ≤ maxLen := hf.max
  have htm : tn ≤ maxLen := ht.max
  have hgm : gn ≤ maxLen := hg.max
  unfold maxLen at hfm htm hgm
  have h1 : ¬ (5000 : Int) < n := by omega
  have h2 := szN_rem size
  obtain ⟨b1, b2⟩ := szN_bd size
  have HS : Kp ((1 : Int) + ((szN size - 1 : Nat) : Int) = (szN size : Nat)) := ⟨by omega⟩
  obtain ⟨s, hs⟩ : ∃ s, s = szN size - 1 := ⟨_, rfl⟩
  rw [← hs] at h2 HS
  have h3 : IntKind.i64.wrap (s : Nat) = (s : Nat) := IntWalk.i64_in _ (by omega)
  have h4 : IntKind.i64.wrap ((1 : Int) + (s : Nat)) = (1 : Int) + (s : Nat) := IntWalk.i64_in _ (by omega)
  obtain ⟨sz, hsz⟩ : ∃ sz, sz = szN size := ⟨_, rfl⟩
  rw [← hsz] at HS hm b1 b2
  rw [hnl] at hm
  obtain ⟨m, hmm⟩ : ∃ m, m = manyN bl.length sz := ⟨_, rfl⟩
  have HM1 := Kp.mk (manyN_is (n := bl.length) b1)
  have HM2 : Kp (∀ k, k < manyN bl.length sz → k * sz ≤ bl.length) := ⟨fun k hk => manyN_lt hk⟩
  have HM3 : Kp (bl.length ≤ manyN bl.length sz * sz) := ⟨manyN_covers b1⟩
  have hm0 : 0 < manyN bl.length sz := manyN_pos
  rw [← hmm] at HM1 HM2 HM3 hm0 hm
  have HLL : Kp (bl.length ≤ 16384) := ⟨by omega⟩
  have HSZ : Kp (1 ≤ sz ∧ sz ≤ 500) := ⟨⟨b1, b2⟩⟩
  have hmz : ((m : Int) == 0) = false := by simp; omega
  have HM0 : Kp (0 < m) := ⟨hm0⟩
  clear hs hsz hmm h ht hg hf hid hnl b1 b2
  go_enter Try.func6, Try.ntmps6
  go_wp2_with fail
  rw [HS.out]
  refine (split_any id sz m _ bl w H.out ⟨HSZ.out.1, by have := HSZ.out; omega⟩ HLL.out HM1.out hm HM2.out).mono ?_
  rintro r w1 ⟨Q, l0, rfl, hQw, hb, hr, hll, hx⟩
  have HQW := Kp.mk hQw
  clear hQw
  have HB1 := Kp.mk hb
  have HR1 := Kp.mk hr
  have HL0 : Kp (PcsOk bl sz m id l0) := ⟨PcsOk.start hll hx⟩
  clear hb hr hll hx
  go_wp2_with fail
  refine (awake_any w1).mono ?_
  rintro r w2 ⟨rfl, hb⟩
  have HB2 : Kp (Below w.heap.size w w2) := ⟨HB1.out.trans (hb.mono HB1.out.size)⟩
  have HR2 : Kp (PRow w2 Q l0) := ⟨HR1.out.keep hb⟩
  clear hb HB1 HR1
  go_wp2_with fail
  refine (new_one w2).mono ?_
  rintro r w3 ⟨rfl, hbk, hb⟩
  obtain ⟨G, hG⟩ : ∃ G, G = w2.heap.size := ⟨_, rfl⟩
  rw [← hG] at hbk ⊢
  have HJ3 : Kp (JW w G G Q ⟨false, 0, []⟩ l0 w3) := ⟨⟨JIs.new hbk, HR2.out.keep hb, HB2.out.trans (hb.mono HB2.out.size), .inl rfl, by rw [hG]; exact HB2.out.size, by rw [hG]; exact HB2.out.size⟩⟩
  clear hbk hb hG HB2 HR2 h2 h3 h4 HS hmz h1
  go_wp2_with fail
  generalize w3 = W3 at *
  go_loopw [66] (fun c wr => ∃ (i : Nat) (q : Nat) (J : PjM), i ≤ fn ∧ c = .int .i64 i ∧ Kp (JW w G q Q J l0 wr) ∧ Kp (J.began = false ∨ J.id < id)) (fun c _ => fn - (intOf c).toNat)
  case atStart => exact ⟨0, G, _, by omega, rfl, HJ3, ⟨.inl rfl⟩⟩
  clear HJ3
  case round =>
    obtain ⟨i, q, J, hi, rfl, HJ, HE⟩ := hrel
    by_cases hlt : i < fn
    · have hlt' : (i : Int) < (fn : Int) := by omega
      have hil : i < ol.length := by rw [HF.out.eq]; exact hlt
      obtain ⟨fb, fo, rfl, hfb, hrg⟩ := HF.out.cells i hil
      obtain ⟨hok, hho⟩ := HF.out.ok _ (List.getElem_mem hil)
      have HRG := Kp.mk (rangeAt_below HJ.out.b hfb hrg)
      obtain ⟨x, hx⟩ : ∃ x, x = ol[i] := ⟨_, rfl⟩
      rw [← hx] at HRG hok hho
      clear hx hrg
      obtain ⟨xi, xa, xm, xv, xl⟩ := x
      simp only [] at hho
      obtain ⟨pa, pn, pc, rfl, hpn⟩ := hho.slice
      have HHO := Kp.mk hho
      have HOK := Kp.mk hok
      unfold pcc at HRG
      simp only [] at HRG
      have HAL : ∀ o, Kp (JW w G q Q J l0 (wr.alloc o)) := fun o => ⟨HJ.out.keep (more (Below.refl _ _) _)⟩
      have HPN := Kp.mk hpn
      clear hho hok hpn
      have hcase : (¬ (i : Int) < 20) ∨ ((i : Int) < 20 ∧ ¬ xi < id) ∨ ((i : Int) < 20 ∧ xi < id ∧ ¬ (pn : Int) < 5000) ∨ ((i : Int) < 20 ∧ xi < id ∧ (pn : Int) < 5000) := by omega
      rcases hcase with h1 | ⟨h1, h2⟩ | ⟨h1, h2, h3⟩ | ⟨h1, h2, h3⟩
      · go_wp2_with (refine wpList_load_mid rfl 25 (.tmp 69) rfl fb (fo + i * 4) rfl [.int .u32 xi, .int .i64 xa, .int .i64 xm, .slice pa pn pc] _ HRG.out Try.underlying25 rfl info25s ?_)
        exact ⟨⟨i + 1, q, J, by omega, by go_num, HAL _, HE⟩, by simp [intOf]; omega⟩
      · go_wp2_with (refine wpList_load_mid rfl 25 (.tmp 69) rfl fb (fo + i * 4) rfl [.int .u32 xi, .int .i64 xa, .int .i64 xm, .slice pa pn pc] _ HRG.out Try.underlying25 rfl info25s ?_)
        exact ⟨⟨i + 1, q, J, by omega, by go_num, HAL _, HE⟩, by simp [intOf]; omega⟩
      · go_wp2_with (refine wpList_load_mid rfl 25 (.tmp 69) rfl fb (fo + i * 4) rfl [.int .u32 xi, .int .i64 xa, .int .i64 xm, .slice pa pn pc] _ HRG.out Try.underlying25 rfl info25s ?_)
        exact ⟨⟨i + 1, q, J, by omega, by go_num, HAL _, HE⟩, by simp [intOf]; omega⟩
      · go_wp2_with (refine wpList_load_mid rfl 25 (.tmp 69) rfl fb (fo + i * 4) rfl [.int .u32 xi, .int .i64 xa, .int .i64 xm, .slice pa pn pc] _ HRG.out Try.underlying25 rfl info25s ?_)
        have HA := HAL (.cells #[.int .u32 xi, .int .i64 xa, .int .i64 xm, .slice pa pn pc] 25)
        generalize wr.alloc (.cells #[.int .u32 xi, .int .i64 xa, .int .i64 xm, .slice pa pn pc] 25) = W4 at *
        refine (to_any ⟨xi, xa, xm, pa, pn, pc⟩ xl W4 (HHO.out.grow HA.out.b) (by have := HPN.out; omega)).mono ?_
        rintro r w5 ⟨a5, c5, rfl, ho5, hb5⟩
        have HA5 := Kp.mk (HA.out.keep hb5)
        have HT5 : Kp (HoldsB w5 w5.heap.size (.slice a5 pn c5) xl) := ⟨HoldsB.ofRow HHO.out.bytes ho5⟩
        clear ho5 hb5
        go_wp2_with fail
        refine (take_any G q J ⟨xi, xa, xm, a5, pn, c5⟩ xl w5 HA5.out.j HT5.out HOK.out.i).mono ?_
        rintro r w6 ⟨q', v', u', rfl, hs, -, -, -⟩
        obtain ⟨q2, hq2⟩ := HA5.out.step hs
        have HJ6 := Kp.mk hq2
        have HE6 : Kp ((takeR J ⟨xi, xa, xm, a5, pn, c5⟩ xl v').2.2.2.began = false ∨ (takeR J ⟨xi, xa, xm, a5, pn, c5⟩ xl v').2.2.2.id < id) := ⟨take_elder HE.out h2⟩
        generalize takeR J ⟨xi, xa, xm, a5, pn, c5⟩ xl v' = R at *
        clear hs hq2
        go_wp2_with fail
        exact ⟨⟨i + 1, q2, _, by omega, by go_num, HJ6, HE6⟩, by simp [intOf]; omega⟩
    · have hee : i = fn := by omega
      have hle : ¬ (i : Int) < (fn : Int) := by omega
      go_wp2_with fail
      clear hlt hle
      go_loopw [92] (fun c wr => ∃ (i : Nat) (l : List PcV), i ≤ tn ∧ c = .int .i64 i ∧ Kp (JW w G q Q J l wr) ∧ Kp (PcsOk bl sz m id l)) (fun c _ => tn - (intOf c).toNat)
      case atStart => exact ⟨0, l0, by omega, rfl, HJ, HL0⟩
      clear HJ HL0
      case round =>
        obtain ⟨i, l, hi, rfl, HJ, HL⟩ := hrel
        by_cases hlt : i < tn ∧ i < 60
        · have hlt' : (i : Int) < (tn : Int) := by omega
          have hlt6 : ¬ (60 : Int) ≤ (i : Int) := by omega
          obtain ⟨tb, to, z, rfl, hz, hz64⟩ := HT.out.at HJ.out.b hlt.1
          have hmz : ¬ (m : Int) = 0 := by omega
          have hmz2 : ¬ (m : Int) = -1 := by omega
          have hmw : IntKind.u64.wrap (m : Nat) = (m : Nat) := by simp [IntKind.wrap, IntKind.bits, IntKind.signed]; omega
          have hia0 : (i : Int).tmod m = ((i % m : Nat) : Int) := rfl
          obtain ⟨ib, hib0, hib⟩ : ∃ ib : Nat, (IntKind.u64.wrap z).tmod (m : Nat) = (ib : Nat) ∧ ib < m := by
            have h0 : 0 ≤ IntKind.u64.wrap z := by simp [IntKind.wrap, IntKind.bits, IntKind.signed]; omega
            have h1 := Int.emod_nonneg (IntKind.u64.wrap z) (show (m : Int) ≠ 0 by omega)
            have h2 := Int.emod_lt_of_pos (IntKind.u64.wrap z) (show (0 : Int) < m by omega)
            exact ⟨((IntKind.u64.wrap z) % m).toNat, by rw [Int.tmod_eq_emod_of_nonneg h0]; omega, by omega⟩
          have hia : i % m < m := Nat.mod_lt _ (by omega)
          obtain ⟨ia, hiaq⟩ : ∃ ia, ia = i % m := ⟨_, rfl⟩
          rw [← hiaq] at hia0 hia
          have hibw : IntKind.i64.wrap (ib : Nat) = (ib : Nat) := IntWalk.i64_in _ (by omega)
          have HM := Kp.mk hm
          have HIL : Kp (ia < l.length ∧ ib < l.length) := ⟨by rw [HL.out.len]; exact ⟨hia, hib⟩⟩
          clear hiaq hm
          go_wp2_with fail
          go_quiet (fail)
          go_wp2_with fail
          have HJd : Kp (JW w G q Q J l (wr.drewN nq).drew) := ⟨HJ.out.keep (below_drewN (Below.refl _ _) nq).drew⟩
          obtain ⟨x, hx⟩ : ∃ x, x = l[ia]'(HIL.out.1) := ⟨_, rfl⟩
          obtain ⟨y, hy⟩ : ∃ y, y = l[ib]'(HIL.out.2) := ⟨_, rfl⟩
          have HPX : Kp (PcsOk bl sz m id ((l.set ia y).set ib x)) := ⟨HL.out.swap (by rw [hx]; exact List.getElem?_eq_getElem _) (by rw [hy]; exact List.getElem?_eq_getElem _)⟩
          refine wp_region_any (by kernel_rfl) ?_
          change wpAny _ _ _ _ _ _ _ (World.drew _)
          generalize (wr.drewN nq).drew = W4 at *
          have hxt : HoldsB W4 W4.heap.size x.v x.l := HJd.out.p.t x (by rw [hx]; exact List.getElem_mem _)
          have hyt : HoldsB W4 W4.heap.size y.v y.l := HJd.out.p.t y (by rw [hy]; exact List.getElem_mem _)
          have HRA := Kp.mk (HJd.out.at HIL.out.1).1
          have HRB := Kp.mk (HJd.out.at HIL.out.2).1
          have HTA := Kp.mk (HJd.out.at HIL.out.1).2
          have hW1 := HJd.out.put HQW.out HIL.out.1 y hyt
          have hxt1 := hxt.beside HJd.out.p.r (rcells_no fun z hz => by obtain ⟨a, n, c, e, -⟩ := (HJd.out.p.t z hz).slice; exact ⟨a, n, c, e⟩) (turn_piece HIL.out.1 HJd.out.p.r y).size fun k hk hne => (turn_piece HIL.out.1 HJd.out.p.r y).other k hk hne
          have hib2 : ib < (l.set ia y).length := by rw [List.length_set]; exact HIL.out.2
          have HTB := Kp.mk (hW1.at hib2).2
          have HW2 := Kp.mk (hW1.put HQW.out hib2 x (hxt1.mono (turn_piece HIL.out.1 HJd.out.p.r y).size))
          rw [← hx] at HRA
          rw [← hy] at HRB
          obtain ⟨ai, aa, am, av, al⟩ := x
          obtain ⟨bi, ba, bm, bv', bll⟩ := y
          simp only [] at hxt hyt
          obtain ⟨a1, n1, c1, rfl, -⟩ := hxt.slice
          obtain ⟨a2, n2, c2, rfl, -⟩ := hyt.slice
          unfold pcc at HRA HRB
          simp only [] at HRA HRB HTB HW2
          have HSW := HM
          clear hxt hyt hxt1 hW1 hx hy HJd HJ
          refine wpAny_take (i := 0) (oi := { dst := some 110, op := Go.Op.move (Go.Operand.tmp 13), type := 41, pos := "law.go:113", after := #[], guard := none }) (v := .slice (some ⟨Q, 0, none⟩) m m) rfl (by kernel_rfl) (by kernel_rfl) (by kernel_rfl) (fun _ _ _ h => h) (Or.inl ⟨by rfl, fun w => by go_simp⟩) ?_
          simp only [Act.put, List.setIfInBounds_toArray, List.set_cons_zero, List.set_cons_succ]
          refine wpAny_take (i := 1) (oi := { dst := some 111, op := Go.Op.move (Go.Operand.tmp 20), type := 3, pos := "law.go:113", after := #[], guard := none }) (v := .int .i64 (ia : Nat)) rfl (by kernel_rfl) (by kernel_rfl) (by kernel_rfl) (fun _ _ _ h => h) (Or.inl ⟨by rfl, fun w => by go_simp⟩) ?_
          simp only [Act.put, List.setIfInBounds_toArray, List.set_cons_zero, List.set_cons_succ]
          refine wpAny_take (i := 2) (oi := { dst := some 112, op := Go.Op.move (Go.Operand.tmp 13), type := 41, pos := "law.go:113", after := #[{ on := 13, ground := Go.Ground.gcOnly Go.Departure.lateStores }], guard := none }) (v := .slice (some ⟨Q, 0, none⟩) m m) rfl (by kernel_rfl) (by kernel_rfl) (by kernel_rfl) (fun _ _ _ h => h) (Or.inl ⟨by rfl, fun w => by go_simp⟩) ?_
          simp only [Act.put, List.setIfInBounds_toArray, List.set_cons_zero, List.set_cons_succ]
          refine wpAny_take (i := 3) (oi := { dst := some 113, op := Go.Op.move (Go.Operand.tmp 21), type := 3, pos := "law.go:113", after := #[{ on := 13, ground := Go.Ground.gcOnly Go.Departure.lateStores }], guard := none }) (v := .int .i64 (ib : Nat)) rfl (by kernel_rfl) (by kernel_rfl) (by kernel_rfl) (fun _ _ _ h => h) (Or.inl ⟨by rfl, fun w => by go_simp⟩) ?_
          simp only [Act.put, List.setIfInBounds_toArray, List.set_cons_zero, List.set_cons_succ]
          refine wpAny_take (i := 4) (oi := { dst := some 114, op := Go.Op.move (Go.Operand.tmp 13), type := 41, pos := "law.go:113", after := #[], guard := none }) (v := .slice (some ⟨Q, 0, none⟩) m m) rfl (by kernel_rfl) (by kernel_rfl) (by kernel_rfl) (fun _ _ _ h => h) (Or.inl ⟨by rfl, fun w => by go_simp⟩) ?_
          simp only [Act.put, List.setIfInBounds_toArray, List.set_cons_zero, List.set_cons_succ]
          refine wpAny_take (i := 5) (oi := { dst := some 115, op := Go.Op.move (Go.Operand.tmp 21), type := 3, pos := "law.go:113", after := #[], guard := none }) (v := .int .i64 (ib : Nat)) rfl (by kernel_rfl) (by kernel_rfl) (by kernel_rfl) (fun _ _ _ h => h) (Or.inl ⟨by rfl, fun w => by go_simp⟩) ?_
          simp only [Act.put, List.setIfInBounds_toArray, List.set_cons_zero, List.set_cons_succ]
          refine wpAny_take (i := 8) (oi := { dst := some 118, op := Go.Op.move (Go.Operand.tmp 13), type := 41, pos := "law.go:113", after := #[], guard := none }) (v := .slice (some ⟨Q, 0, none⟩) m m) rfl (by kernel_rfl) (by kernel_rfl) (by kernel_rfl) (fun _ _ _ h => h) (Or.inl ⟨by rfl, fun w => by go_simp⟩) ?_
          simp only [Act.put, List.setIfInBounds_toArray, List.set_cons_zero, List.set_cons_succ]
          refine wpAny_take (i := 9) (oi := { dst := some 119, op := Go.Op.move (Go.Operand.tmp 20), type := 3, pos := "law.go:113", after := #[], guard := none }) (v := .int .i64 (ia : Nat)) rfl (by kernel_rfl) (by kernel_rfl) (by kernel_rfl) (fun _ _ _ h => h) (Or.inl ⟨by rfl, fun w => by go_simp⟩) ?_
          simp only [Act.put, List.setIfInBounds_toArray, List.set_cons_zero, List.set_cons_succ]
          refine wpAny_take (i := 6) (oi := { dst := some 116, op := Go.Op.indexAddr 41 (Go.Operand.tmp 114) (Go.Operand.tmp 115), type := 0, pos := "law.go:113", after := #[{ on := 4, ground := Go.Ground.data }, { on := 5, ground := Go.Ground.data }], guard := none }) (v := .pointer (some ⟨Q, 0 + ib * 4, none⟩)) rfl (by kernel_rfl) (by kernel_rfl) (by kernel_rfl) (fun _ _ _ h => h) (Or.inl ⟨by rfl, fun w => exec_idx41 (x := .tmp 114) (y := .tmp 115) (B := Q) (o := 0) (n := m) (cap := m) (j := ib) rfl rfl rfl rfl hib⟩) ?_
          simp only [Act.put, List.setIfInBounds_toArray, List.set_cons_zero, List.set_cons_succ]
          refine wpAny_take (i := 10) (oi := { dst := some 120, op := Go.Op.indexAddr 41 (Go.Operand.tmp 118) (Go.Operand.tmp 119), type := 0, pos := "law.go:113", after := #[{ on := 8, ground := Go.Ground.data }, { on := 9, ground := Go.Ground.data }], guard := none }) (v := .pointer (some ⟨Q, 0 + ia * 4, none⟩)) rfl (by kernel_rfl) (by kernel_rfl) (by kernel_rfl) (fun _ _ _ h => h) (Or.inl ⟨by rfl, fun w => exec_idx41 (x := .tmp 118) (y := .tmp 119) (B := Q) (o := 0) (n := m) (cap := m) (j := ia) rfl rfl rfl rfl hia⟩) ?_
          simp only [Act.put, List.setIfInBounds_toArray, List.set_cons_zero, List.set_cons_succ]
          refine wpAny_ready (rs := [7, 11]) (by kernel_rfl) (by simp) ?_
          refine AllReady.cons (o := { dst := some 117, op := Go.Op.load 30 (Go.Operand.tmp 116), type := 30, pos := "law.go:113", after := #[{ on := 6, ground := Go.Ground.data }], guard := none }) rfl (fun K hK => ?_) (AllReady.cons (o := { dst := some 121, op := Go.Op.load 30 (Go.Operand.tmp 120), type := 30, pos := "law.go:113", after := #[{ on := 10, ground := Go.Ground.data }], guard := none }) rfl (fun K hK => ?_) AllReady.nil)
          · refine wp_load_mid 30 (.tmp 116) rfl Q (0 + ib * 4) rfl [.int .u32 bi, .int .i64 ba, .int .i64 bm, .slice a2 n2 c2] _ (by rw [Nat.zero_add]; exact HRB.out) Try.underlying30 rfl info30s ?_
            refine hK _ _ ?_
            clear hK K
            try simp only [Act.put, List.setIfInBounds_toArray, List.set_cons_zero, List.set_cons_succ]
            refine wpAny_ready (rs := [11]) (by kernel_rfl) (by simp) ?_
            refine AllReady.cons (o := { dst := some 121, op := Go.Op.load 30 (Go.Operand.tmp 120), type := 30, pos := "law.go:113", after := #[{ on := 10, ground := Go.Ground.data }], guard := none }) rfl (fun K hK => ?_) AllReady.nil
            refine wp_load_mid 30 (.tmp 120) rfl Q (0 + ia * 4) rfl [.int .u32 ai, .int .i64 aa, .int .i64 am, .slice a1 n1 c1] _ (by rw [Nat.zero_add]; exact HRA.out) Try.underlying30 rfl info30s ?_
            refine hK _ _ ?_
            clear hK K
            try simp only [Act.put, List.setIfInBounds_toArray, List.set_cons_zero, List.set_cons_succ]
            refine wpAny_take (i := 12) (oi := { dst := some 122, op := Go.Op.indexAddr 41 (Go.Operand.tmp 110) (Go.Operand.tmp 111), type := 0, pos := "law.go:113", after := #[{ on := 0, ground := Go.Ground.data }, { on := 1, ground := Go.Ground.data }, { on := 0, ground := Go.Ground.phase }, { on := 1, ground := Go.Ground.phase }, { on := 2, ground := Go.Ground.textOnly Go.Departure.lateStores }, { on := 3, ground := Go.Ground.textOnly Go.Departure.lateStores }, { on := 4, ground := Go.Ground.phase }, { on := 5, ground := Go.Ground.phase }, { on := 6, ground := Go.Ground.phase }, { on := 7, ground := Go.Ground.phase }, { on := 8, ground := Go.Ground.textOnly Go.Departure.lateStores }, { on := 9, ground := Go.Ground.textOnly Go.Departure.lateStores }, { on := 10, ground := Go.Ground.textOnly Go.Departure.lateStoresUnsure }, { on := 11, ground := Go.Ground.phase }], guard := none }) (v := .pointer (some ⟨Q, 0 + ia * 4, none⟩)) rfl (by kernel_rfl) (by kernel_rfl) (by kernel_rfl) (fun _ _ _ h => h) (Or.inl ⟨by rfl, fun w => exec_idx41 (x := .tmp 110) (y := .tmp 111) (B := Q) (o := 0) (n := m) (cap := m) (j := ia) rfl rfl rfl rfl hia⟩) ?_
            simp only [Act.put, List.setIfInBounds_toArray, List.set_cons_zero, List.set_cons_succ]
            refine wpAny_ready (rs := [13]) (by kernel_rfl) (by simp) ?_
            refine AllReady.cons (o := { dst := none, op := Go.Op.store 30 (Go.Operand.tmp 122) (Go.Operand.tmp 117), type := 0, pos := "law.go:113", after := #[{ on := 12, ground := Go.Ground.data }, { on := 7, ground := Go.Ground.data }, { on := 0, ground := Go.Ground.phase }, { on := 1, ground := Go.Ground.phase }, { on := 2, ground := Go.Ground.textOnly Go.Departure.lateStores }, { on := 3, ground := Go.Ground.textOnly Go.Departure.lateStores }, { on := 4, ground := Go.Ground.phase }, { on := 5, ground := Go.Ground.phase }, { on := 6, ground := Go.Ground.phase }, { on := 7, ground := Go.Ground.phase }, { on := 8, ground := Go.Ground.textOnly Go.Departure.lateStores }, { on := 9, ground := Go.Ground.textOnly Go.Departure.lateStores }, { on := 10, ground := Go.Ground.textOnly Go.Departure.lateStoresUnsure }, { on := 11, ground := Go.Ground.phase }], guard := none }) rfl (fun K hK => ?_) AllReady.nil
            refine wp_store_mid 30 (.tmp 122) (.tmp 117) rfl Q (0 + ia * 4) #[.int .u32 bi, .int .i64 ba, .int .i64 bm, .slice a2 n2 c2] rfl rfl (by rw [Nat.zero_add]; exact HTA.out) info30s (one4J _ _ _ _ _ _) ?_
            refine hK _ _ ?_
            clear hK K
            try simp only [Act.put, List.setIfInBounds_toArray, List.set_cons_zero, List.set_cons_succ]
            refine wpAny_take (i := 14) (oi := { dst := some 123, op := Go.Op.indexAddr 41 (Go.Operand.tmp 112) (Go.Operand.tmp 113), type := 0, pos := "law.go:113", after := #[{ on := 2, ground := Go.Ground.data }, { on := 3, ground := Go.Ground.data }, { on := 0, ground := Go.Ground.phase }, { on := 1, ground := Go.Ground.phase }, { on := 2, ground := Go.Ground.phase }, { on := 3, ground := Go.Ground.phase }, { on := 4, ground := Go.Ground.phase }, { on := 5, ground := Go.Ground.phase }, { on := 6, ground := Go.Ground.phase }, { on := 7, ground := Go.Ground.phase }, { on := 8, ground := Go.Ground.phase }, { on := 9, ground := Go.Ground.phase }, { on := 10, ground := Go.Ground.phase }, { on := 11, ground := Go.Ground.phase }, { on := 12, ground := Go.Ground.phase }, { on := 13, ground := Go.Ground.phase }], guard := none }) (v := .pointer (some ⟨Q, 0 + ib * 4, none⟩)) rfl (by kernel_rfl) (by kernel_rfl) (by kernel_rfl) (fun _ _ _ h => h) (Or.inl ⟨by rfl, fun w => exec_idx41 (x := .tmp 112) (y := .tmp 113) (B := Q) (o := 0) (n := m) (cap := m) (j := ib) rfl rfl rfl rfl hib⟩) ?_
            simp only [Act.put, List.setIfInBounds_toArray, List.set_cons_zero, List.set_cons_succ]
            refine wpAny_ready (rs := [15]) (by kernel_rfl) (by simp) ?_
            refine AllReady.cons (o := { dst := none, op := Go.Op.store 30 (Go.Operand.tmp 123) (Go.Operand.tmp 121), type := 0, pos := "law.go:113", after := #[{ on := 14, ground := Go.Ground.data }, { on := 11, ground := Go.Ground.data }, { on := 13, ground := Go.Ground.chain }, { on := 0, ground := Go.Ground.phase }, { on := 1, ground := Go.Ground.phase }, { on := 2, ground := Go.Ground.phase }, { on := 3, ground := Go.Ground.phase }, { on := 4, ground := Go.Ground.phase }, { on := 5, ground := Go.Ground.phase }, { on := 6, ground := Go.Ground.phase }, { on := 7, ground := Go.Ground.phase }, { on := 8, ground := Go.Ground.phase }, { on := 9, ground := Go.Ground.phase }, { on := 10, ground := Go.Ground.phase }, { on := 11, ground := Go.Ground.phase }, { on := 12, ground := Go.Ground.phase }, { on := 13, ground := Go.Ground.phase }], guard := none }) rfl (fun K hK => ?_) AllReady.nil
            refine wp_store_mid 30 (.tmp 123) (.tmp 121) rfl Q (0 + ib * 4) #[.int .u32 ai, .int .i64 aa, .int .i64 am, .slice a1 n1 c1] rfl rfl (by rw [Nat.zero_add, Nat.zero_add]; exact HTB.out) info30s (one4J _ _ _ _ _ _) ?_
            refine hK _ _ ?_
            clear hK K
            try simp only [Act.put, List.setIfInBounds_toArray, List.set_cons_zero, List.set_cons_succ]
            refine wpAny_done (by kernel_rfl) ?_ _
            refine ex_world (fun W => JW w G q Q J ((l.set ia ⟨bi, ba, bm, .slice a2 n2 c2, bll⟩).set ib ⟨ai, aa, am, .slice a1 n1 c1, al⟩) W) (by rw [Nat.zero_add, Nat.zero_add]; exact HW2.out) ?_
            intro W9 hW9
            have HW9 := Kp.mk hW9
            clear hW9 HW2 HTA HTB HRA HRB HSW
            go_wp2_with fail
            exact ⟨⟨i + 1, _, by omega, by go_num, HW9, HPX⟩, by simp [intOf]; omega⟩
          · refine wp_load_mid 30 (.tmp 120) rfl Q (0 + ia * 4) rfl [.int .u32 ai, .int .i64 aa, .int .i64 am, .slice a1 n1 c1] _ (by rw [Nat.zero_add]; exact HRA.out) Try.underlying30 rfl info30s ?_
            refine hK _ _ ?_
            clear hK K
            try simp only [Act.put, List.setIfInBounds_toArray, List.set_cons_zero, List.set_cons_succ]
            refine wpAny_ready (rs := [7]) (by kernel_rfl) (by simp) ?_
            refine AllReady.cons (o := { dst := some 117, op := Go.Op.load 30 (Go.Operand.tmp 116), type := 30, pos := "law.go:113", after := #[{ on := 6, ground := Go.Ground.data }], guard := none }) rfl (fun K hK => ?_) AllReady.nil
            refine wp_load_mid 30 (.tmp 116) rfl Q (0 + ib * 4) rfl [.int .u32 bi, .int .i64 ba, .int .i64 bm, .slice a2 n2 c2] _ (by rw [Nat.zero_add]; exact HRB.out) Try.underlying30 rfl info30s ?_
            refine hK _ _ ?_
            clear hK K
            try simp only [Act.put, List.setIfInBounds_toArray, List.set_cons_zero, List.set_cons_succ]
            refine wpAny_take (i := 12) (oi := { dst := some 122, op := Go.Op.indexAddr 41 (Go.Operand.tmp 110) (Go.Operand.tmp 111), type := 0, pos := "law.go:113", after := #[{ on := 0, ground := Go.Ground.data }, { on := 1, ground := Go.Ground.data }, { on := 0, ground := Go.Ground.phase }, { on := 1, ground := Go.Ground.phase }, { on := 2, ground := Go.Ground.textOnly Go.Departure.lateStores }, { on := 3, ground := Go.Ground.textOnly Go.Departure.lateStores }, { on := 4, ground := Go.Ground.phase }, { on := 5, ground := Go.Ground.phase }, { on := 6, ground := Go.Ground.phase }, { on := 7, ground := Go.Ground.phase }, { on := 8, ground := Go.Ground.textOnly Go.Departure.lateStores }, { on := 9, ground := Go.Ground.textOnly Go.Departure.lateStores }, { on := 10, ground := Go.Ground.textOnly Go.Departure.lateStoresUnsure }, { on := 11, ground := Go.Ground.phase }], guard := none }) (v := .pointer (some ⟨Q, 0 + ia * 4, none⟩)) rfl (by kernel_rfl) (by kernel_rfl) (by kernel_rfl) (fun _ _ _ h => h) (Or.inl ⟨by rfl, fun w => exec_idx41 (x := .tmp 110) (y := .tmp 111) (B := Q) (o := 0) (n := m) (cap := m) (j := ia) rfl rfl rfl rfl hia⟩) ?_
            simp only [Act.put, List.setIfInBounds_toArray, List.set_cons_zero, List.set_cons_succ]
            refine wpAny_ready (rs := [13]) (by kernel_rfl) (by simp) ?_
            refine AllReady.cons (o := { dst := none, op := Go.Op.store 30 (Go.Operand.tmp 122) (Go.Operand.tmp 117), type := 0, pos := "law.go:113", after := #[{ on := 12, ground := Go.Ground.data }, { on := 7, ground := Go.Ground.data }, { on := 0, ground := Go.Ground.phase }, { on := 1, ground := Go.Ground.phase }, { on := 2, ground := Go.Ground.textOnly Go.Departure.lateStores }, { on := 3, ground := Go.Ground.textOnly Go.Departure.lateStores }, { on := 4, ground := Go.Ground.phase }, { on := 5, ground := Go.Ground.phase }, { on := 6, ground := Go.Ground.phase }, { on := 7, ground := Go.Ground.phase }, { on := 8, ground := Go.Ground.textOnly Go.Departure.lateStores }, { on := 9, ground := Go.Ground.textOnly Go.Departure.lateStores }, { on := 10, ground := Go.Ground.textOnly Go.Departure.lateStoresUnsure }, { on := 11, ground := Go.Ground.phase }], guard := none }) rfl (fun K hK => ?_) AllReady.nil
            refine wp_store_mid 30 (.tmp 122) (.tmp 117) rfl Q (0 + ia * 4) #[.int .u32 bi, .int .i64 ba, .int .i64 bm, .slice a2 n2 c2] rfl rfl (by rw [Nat.zero_add]; exact HTA.out) info30s (one4J _ _ _ _ _ _) ?_
            refine hK _ _ ?_
            clear hK K
            try simp only [Act.put, List.setIfInBounds_toArray, List.set_cons_zero, List.set_cons_succ]
            refine wpAny_take (i := 14) (oi := { dst := some 123, op := Go.Op.indexAddr 41 (Go.Operand.tmp 112) (Go.Operand.tmp 113), type := 0, pos := "law.go:113", after := #[{ on := 2, ground := Go.Ground.data }, { on := 3, ground := Go.Ground.data }, { on := 0, ground := Go.Ground.phase }, { on := 1, ground := Go.Ground.phase }, { on := 2, ground := Go.Ground.phase }, { on := 3, ground := Go.Ground.phase }, { on := 4, ground := Go.Ground.phase }, { on := 5, ground := Go.Ground.phase }, { on := 6, ground := Go.Ground.phase }, { on := 7, ground := Go.Ground.phase }, { on := 8, ground := Go.Ground.phase }, { on := 9, ground := Go.Ground.phase }, { on := 10, ground := Go.Ground.phase }, { on := 11, ground := Go.Ground.phase }, { on := 12, ground := Go.Ground.phase }, { on := 13, ground := Go.Ground.phase }], guard := none }) (v := .pointer (some ⟨Q, 0 + ib * 4, none⟩)) rfl (by kernel_rfl) (by kernel_rfl) (by kernel_rfl) (fun _ _ _ h => h) (Or.inl ⟨by rfl, fun w => exec_idx41 (x := .tmp 112) (y := .tmp 113) (B := Q) (o := 0) (n := m) (cap := m) (j := ib) rfl rfl rfl rfl hib⟩) ?_
            simp only [Act.put, List.setIfInBounds_toArray, List.set_cons_zero, List.set_cons_succ]
            refine wpAny_ready (rs := [15]) (by kernel_rfl) (by simp) ?_
            refine AllReady.cons (o := { dst := none, op := Go.Op.store 30 (Go.Operand.tmp 123) (Go.Operand.tmp 121), type := 0, pos := "law.go:113", after := #[{ on := 14, ground := Go.Ground.data }, { on := 11, ground := Go.Ground.data }, { on := 13, ground := Go.Ground.chain }, { on := 0, ground := Go.Ground.phase }, { on := 1, ground := Go.Ground.phase }, { on := 2, ground := Go.Ground.phase }, { on := 3, ground := Go.Ground.phase }, { on := 4, ground := Go.Ground.phase }, { on := 5, ground := Go.Ground.phase }, { on := 6, ground := Go.Ground.phase }, { on := 7, ground := Go.Ground.phase }, { on := 8, ground := Go.Ground.phase }, { on := 9, ground := Go.Ground.phase }, { on := 10, ground := Go.Ground.phase }, { on := 11, ground := Go.Ground.phase }, { on := 12, ground := Go.Ground.phase }, { on := 13, ground := Go.Ground.phase }], guard := none }) rfl (fun K hK => ?_) AllReady.nil
            refine wp_store_mid 30 (.tmp 123) (.tmp 121) rfl Q (0 + ib * 4) #[.int .u32 ai, .int .i64 aa, .int .i64 am, .slice a1 n1 c1] rfl rfl (by rw [Nat.zero_add, Nat.zero_add]; exact HTB.out) info30s (one4J _ _ _ _ _ _) ?_
            refine hK _ _ ?_
            clear hK K
            try simp only [Act.put, List.setIfInBounds_toArray, List.set_cons_zero, List.set_cons_succ]
            refine wpAny_done (by kernel_rfl) ?_ _
            refine ex_world (fun W => JW w G q Q J ((l.set ia ⟨bi, ba, bm, .slice a2 n2 c2, bll⟩).set ib ⟨ai, aa, am, .slice a1 n1 c1, al⟩) W) (by rw [Nat.zero_add, Nat.zero_add]; exact HW2.out) ?_
            intro W9 hW9
            have HW9 := Kp.mk hW9
            clear hW9 HW2 HTA HTB HRA HRB HSW
            go_wp2_with fail
            exact ⟨⟨i + 1, _, by omega, by go_num, HW9, HPX⟩, by simp [intOf]; omega⟩
        · have hcase : (¬ (i : Int) < (tn : Int)) ∨ ((i : Int) < (tn : Int) ∧ (60 : Int) ≤ (i : Int)) := by omega
          clear hlt
          rcases hcase with h1 | ⟨h1, h2⟩
          case' inl => go_wp2_with fail
          case' inr =>
            obtain ⟨tb, to, z, rfl, hz, hz64⟩ := HT.out.at HJ.out.b (i := i) (by omega)
            go_wp2_with fail
            clear h2 hz hz64
          all_goals
            clear h1
            go_loopw [127] (fun c wr => ∃ (i : Nat) (q : Nat) (J : PjM), i ≤ m ∧ c = .int .i64 i ∧ Kp (JW w G q Q J l wr) ∧ Kp (MS bl sz m id l i J)) (fun c _ => m - (intOf c).toNat)
            case atStart => exact ⟨0, q, J, by omega, rfl, HJ, ⟨⟨fun _ => HE.out, fun h => absurd h (by omega), fun h h0 => absurd h0 (by omega)⟩⟩⟩
            clear HJ HE
            case round =>
              obtain ⟨i, q, J, hi, rfl, HJ, HMS⟩ := hrel
              by_cases hlt : i < m
              · have hlt' : (i : Int) < (m : Int) := by omega
                have hmw : IntKind.i64.wrap ((m : Int) - 1) = (m : Int) - 1 := IntWalk.i64_in _ (by omega)
                have hit : ((i : Nat) : Int).toNat = i := by omega
                have hiw0 : IntKind.i64.wrap ((i : Int) + 1) = (i : Int) + 1 := IntWalk.i64_in _ (by omega)
                have HM32 := Kp.mk hm
                have HIL : Kp (i < l.length) := ⟨by rw [HL.out.len]; exact hlt⟩
                obtain ⟨xk, HXK⟩ : ∃ xk : Nat, Kp ((l[i]'(HIL.out)).at_ = xk ∧ (l[i]'(HIL.out)).id = id ∧ (l[i]'(HIL.out)).many = m ∧ (l[i]'(HIL.out)).l = pieceL bl sz xk ∧ xk < m) := by
                  obtain ⟨e1, e2, k, e3, e4, e5⟩ := HL.out.is i _ (List.getElem?_eq_getElem HIL.out)
                  exact ⟨k, ⟨e3, e1, e2, e5, e4⟩⟩
                have hxt := HJ.out.p.t _ (List.getElem_mem HIL.out)
                rw [HXK.out.2.2.2.1] at hxt
                obtain ⟨xa, xn, xc, ex, hxn⟩ := hxt.slice
                rw [ex] at hxt
                have HXR : Kp (wr.rangeAt Q (i * 4) [.int .u32 id, .int .i64 (xk : Nat), .int .i64 (m : Nat), .slice xa xn xc]) := ⟨by
                  have h := (HJ.out.at HIL.out).1
                  unfold pcc at h
                  rw [HXK.out.1, HXK.out.2.1, HXK.out.2.2.1, ex] at h
                  exact h⟩
                have HXT := Kp.mk hxt
                have HXV : Kp (PvOk bl sz m id ⟨id, xk, m, xa, xn, xc⟩ xk) := ⟨⟨rfl, rfl, rfl, hxn, HXK.out.2.2.2.2, HM32.out, HSZ.out.2⟩⟩
                clear hxt ex hxn hm
                go_wp2_with (refine wpList_load_mid rfl 30 (.tmp 130) rfl Q (i * 4) rfl [.int .u32 id, .int .i64 (xk : Nat), .int .i64 (m : Nat), .slice xa xn xc] _ HXR.out Try.underlying30 rfl info30s ?_)
                refine (take_any G q J ⟨id, xk, m, xa, xn, xc⟩ (pieceL bl sz xk) _ (HJ.out.keep (more (Below.refl _ _) _)).j (HXT.out.grow (more (Below.refl _ _) _)) HID.out).mono ?_
                rintro r w6 ⟨q', v', u', rfl, hs, hu, -, -⟩
                obtain ⟨J', hR, hMS⟩ := HMS.out.step HL.out hlt (List.getElem?_eq_getElem HIL.out) HXK.out.1 HXV.out HM3.out v'
                have HMS6 := Kp.mk hMS
                rw [hR] at hs hu ⊢
                simp only [] at hs hu ⊢
                clear hR hMS
                have HLT := Kp.mk hlt
                by_cases he : i + 1 = m
                · rw [if_pos he] at hu
                  rw [decide_eq_true he]
                  have hlast : ((i : Int) == (m : Int) - 1) = true := by simp; omega
                  obtain ⟨q1, hq1⟩ := HJ.out.keep (more (Below.refl _ _) _) |>.step hs
                  have HJ6 := Kp.mk hq1
                  obtain ⟨ua, un, uc, rfl, hun⟩ := hu.slice
                  have HU6 := Kp.mk hu
                  clear hs hq1 hu hun
                  have tx := HU6.out.text
                  have ty := (H.out.keep HJ6.out.b).text
                  generalize strOfNums bl = sb at tx ty
                  have hcase : (¬ (i : Int) < (gn : Int)) ∨ (i < gn) := by omega
                  rcases hcase with g1 | g1
                  · go_wp2_with fail
                    exact ⟨⟨i + 1, q1, J', by have := HLT.out; omega, by go_num, HJ6, HMS6⟩, by have := HLT.out; simp [intOf]; omega⟩
                  · obtain ⟨gb, go', z, rfl, hz, hz64⟩ := HG.out.at HJ6.out.b g1
                    have g1' : (i : Int) < (gn : Int) := by omega
                    by_cases g2 : z.tmod 2 = 1
                    · have g2' : (z.tmod 2 == 1) = true := by simpa using g2
                      have hiz : ¬ ((i : Int) + 1) = 0 := by omega
                      have hiz2 : ¬ ((i : Int) + 1) = -1 := by omega
                      have hiw1 : IntKind.i64.wrap ((i : Int) + 1) = (i : Int) + 1 := IntWalk.i64_in _ (by omega)
                      have hiw : IntKind.u64.wrap ((i : Int) + 1) = (i : Int) + 1 := by simp [IntKind.wrap, IntKind.bits, IntKind.signed]; omega
                      obtain ⟨jb, hjb0, hjb⟩ : ∃ jb : Nat, (IntKind.u64.wrap z).tmod ((i : Int) + 1) = (jb : Nat) ∧ jb < i + 1 := by
                        have h0 : 0 ≤ IntKind.u64.wrap z := by simp [IntKind.wrap, IntKind.bits, IntKind.signed]; omega
                        have h1 := Int.emod_nonneg (IntKind.u64.wrap z) (show ((i : Int) + 1) ≠ 0 by omega)
                        have h2 := Int.emod_lt_of_pos (IntKind.u64.wrap z) (show (0 : Int) < (i : Int) + 1 by omega)
                        exact ⟨((IntKind.u64.wrap z) % ((i : Int) + 1)).toNat, by rw [Int.tmod_eq_emod_of_nonneg h0]; omega, by omega⟩
                      have hjw : IntKind.i64.wrap (jb : Nat) = (jb : Nat) := IntWalk.i64_in _ (by omega)
                      have hjm : (jb : Int) < (m : Int) := by omega
                      have hjt : ((jb : Nat) : Int).toNat = jb := by omega
                      have HJB : Kp (jb ≤ i ∧ jb < l.length) := ⟨by omega, by rw [HL.out.len]; omega⟩
                      obtain ⟨yk, HPK⟩ : ∃ yk : Nat, Kp ((l[jb]'(HJB.out.2)).at_ = yk ∧ (l[jb]'(HJB.out.2)).id = id ∧ (l[jb]'(HJB.out.2)).many = m ∧ (l[jb]'(HJB.out.2)).l = pieceL bl sz yk ∧ yk < m) := by
                        obtain ⟨e1, e2, k, e3, e4, e5⟩ := HL.out.is jb _ (List.getElem?_eq_getElem HJB.out.2)
                        exact ⟨k, ⟨e3, e1, e2, e5, e4⟩⟩
                      have hyt := HJ6.out.p.t _ (List.getElem_mem HJB.out.2)
                      rw [HPK.out.2.2.2.1] at hyt
                      obtain ⟨ya, yn, yc, ey, hyn⟩ := hyt.slice
                      rw [ey] at hyt
                      have HYR : Kp (w6.rangeAt Q (jb * 4) [.int .u32 id, .int .i64 (yk : Nat), .int .i64 (m : Nat), .slice ya yn yc]) := ⟨by
                        have h := (HJ6.out.at HJB.out.2).1
                        unfold pcc at h
                        rw [HPK.out.1, HPK.out.2.1, HPK.out.2.2.1, ey] at h
                        exact h⟩
                      have HYT := Kp.mk hyt
                      have HPV : Kp (PvOk bl sz m id ⟨id, yk, m, ya, yn, yc⟩ yk) := ⟨⟨rfl, rfl, rfl, hyn, HPK.out.2.2.2.2, HM32.out, HSZ.out.2⟩⟩
                      clear hyt ey hyn hjb g2 hz64
                      go_wp2_with (refine wpList_load_mid rfl 30 (.tmp 186) rfl Q (jb * 4) rfl [.int .u32 id, .int .i64 (yk : Nat), .int .i64 (m : Nat), .slice ya yn yc] _ HYR.out Try.underlying30 rfl info30s ?_)
                      refine (take_any G q1 J' ⟨id, yk, m, ya, yn, yc⟩ (pieceL bl sz yk) w6 HJ6.out.j HYT.out HID.out).mono ?_
                      rintro r w7 ⟨q', v', u', rfl, hs, hu, -, -⟩
                      rw [HMS6.out.again (by omega) HJB.out.1 (List.getElem?_eq_getElem HJB.out.2) HPK.out.1 HPV.out v', if_pos he] at hs hu ⊢
                      obtain ⟨q2, hq2⟩ := HJ6.out.step hs
                      have HJ7 := Kp.mk hq2
                      obtain ⟨ua, un, uc, rfl, hun⟩ := hu.slice
                      have hu0 : un = 0 := by simpa using hun
                      subst hu0
                      clear hs hq2 hu hun
                      go_wp2_with fail
                      exact ⟨⟨i + 1, q2, J', by have := HLT.out; omega, by go_num, HJ7, HMS6⟩, by have := HLT.out; simp [intOf]; omega⟩
                    · have g2' : (z.tmod 2 == 1) = false := by simpa using g2
                      clear g2 hz64
                      go_wp2_with fail
                      exact ⟨⟨i + 1, q1, J', by have := HLT.out; omega, by go_num, HJ6, HMS6⟩, by have := HLT.out; simp [intOf]; omega⟩
                · rw [if_neg he] at hu
                  rw [decide_eq_false he]
                  have hlast : ((i : Int) == (m : Int) - 1) = false := by simp; omega
                  obtain ⟨q1, hq1⟩ := HJ.out.keep (more (Below.refl _ _) _) |>.step hs
                  have HJ6 := Kp.mk hq1
                  obtain ⟨ua, un, uc, rfl, hun⟩ := hu.slice
                  have HU6 := Kp.mk hu
                  clear hs hq1 hu hun
                  have hcase : (¬ (i : Int) < (gn : Int)) ∨ (i < gn) := by omega
                  rcases hcase with g1 | g1
                  · go_wp2_with fail
                    exact ⟨⟨i + 1, q1, J', by have := HLT.out; omega, by go_num, HJ6, HMS6⟩, by have := HLT.out; simp [intOf]; omega⟩
                  · obtain ⟨gb, go', z, rfl, hz, hz64⟩ := HG.out.at HJ6.out.b g1
                    have g1' : (i : Int) < (gn : Int) := by omega
                    by_cases g2 : z.tmod 2 = 1
                    · have g2' : (z.tmod 2 == 1) = true := by simpa using g2
                      have hiz : ¬ ((i : Int) + 1) = 0 := by omega
                      have hiz2 : ¬ ((i : Int) + 1) = -1 := by omega
                      have hiw1 : IntKind.i64.wrap ((i : Int) + 1) = (i : Int) + 1 := IntWalk.i64_in _ (by omega)
                      have hiw : IntKind.u64.wrap ((i : Int) + 1) = (i : Int) + 1 := by simp [IntKind.wrap, IntKind.bits, IntKind.signed]; omega
                      obtain ⟨jb, hjb0, hjb⟩ : ∃ jb : Nat, (IntKind.u64.wrap z).tmod ((i : Int) + 1) = (jb : Nat) ∧ jb < i + 1 := by
                        have h0 : 0 ≤ IntKind.u64.wrap z := by simp [IntKind.wrap, IntKind.bits, IntKind.signed]; omega
                        have h1 := Int.emod_nonneg (IntKind.u64.wrap z) (show ((i : Int) + 1) ≠ 0 by omega)
                        have h2 := Int.emod_lt_of_pos (IntKind.u64.wrap z) (show (0 : Int) < (i : Int) + 1 by omega)
                        exact ⟨((IntKind.u64.wrap z) % ((i : Int) + 1)).toNat, by rw [Int.tmod_eq_emod_of_nonneg h0]; omega, by omega⟩
                      have hjw : IntKind.i64.wrap (jb : Nat) = (jb : Nat) := IntWalk.i64_in _ (by omega)
                      have hjm : (jb : Int) < (m : Int) := by omega
                      have hjt : ((jb : Nat) : Int).toNat = jb := by omega
                      have HJB : Kp (jb ≤ i ∧ jb < l.length) := ⟨by omega, by rw [HL.out.len]; omega⟩
                      obtain ⟨yk, HPK⟩ : ∃ yk : Nat, Kp ((l[jb]'(HJB.out.2)).at_ = yk ∧ (l[jb]'(HJB.out.2)).id = id ∧ (l[jb]'(HJB.out.2)).many = m ∧ (l[jb]'(HJB.out.2)).l = pieceL bl sz yk ∧ yk < m) := by
                        obtain ⟨e1, e2, k, e3, e4, e5⟩ := HL.out.is jb _ (List.getElem?_eq_getElem HJB.out.2)
                        exact ⟨k, ⟨e3, e1, e2, e5, e4⟩⟩
                      have hyt := HJ6.out.p.t _ (List.getElem_mem HJB.out.2)
                      rw [HPK.out.2.2.2.1] at hyt
                      obtain ⟨ya, yn, yc, ey, hyn⟩ := hyt.slice
                      rw [ey] at hyt
                      have HYR : Kp (w6.rangeAt Q (jb * 4) [.int .u32 id, .int .i64 (yk : Nat), .int .i64 (m : Nat), .slice ya yn yc]) := ⟨by
                        have h := (HJ6.out.at HJB.out.2).1
                        unfold pcc at h
                        rw [HPK.out.1, HPK.out.2.1, HPK.out.2.2.1, ey] at h
                        exact h⟩
                      have HYT := Kp.mk hyt
                      have HPV : Kp (PvOk bl sz m id ⟨id, yk, m, ya, yn, yc⟩ yk) := ⟨⟨rfl, rfl, rfl, hyn, HPK.out.2.2.2.2, HM32.out, HSZ.out.2⟩⟩
                      clear hyt ey hyn hjb g2 hz64
                      go_wp2_with (refine wpList_load_mid rfl 30 (.tmp 186) rfl Q (jb * 4) rfl [.int .u32 id, .int .i64 (yk : Nat), .int .i64 (m : Nat), .slice ya yn yc] _ HYR.out Try.underlying30 rfl info30s ?_)
                      refine (take_any G q1 J' ⟨id, yk, m, ya, yn, yc⟩ (pieceL bl sz yk) w6 HJ6.out.j HYT.out HID.out).mono ?_
                      rintro r w7 ⟨q', v', u', rfl, hs, hu, -, -⟩
                      rw [HMS6.out.again (by omega) HJB.out.1 (List.getElem?_eq_getElem HJB.out.2) HPK.out.1 HPV.out v', if_neg he] at hs hu ⊢
                      obtain ⟨q2, hq2⟩ := HJ6.out.step hs
                      have HJ7 := Kp.mk hq2
                      obtain ⟨ua, un, uc, rfl, hun⟩ := hu.slice
                      have hu0 : un = 0 := by simpa using hun
                      subst hu0
                      clear hs hq2 hu hun
                      go_wp2_with fail
                      exact ⟨⟨i + 1, q2, J', by have := HLT.out; omega, by go_num, HJ7, HMS6⟩, by have := HLT.out; simp [intOf]; omega⟩
                    · have g2' : (z.tmod 2 == 1) = false := by simpa using g2
                      clear g2 hz64
                      go_wp2_with fail
                      exact ⟨⟨i + 1, q1, J', by have := HLT.out; omega, by go_num, HJ6, HMS6⟩, by have := HLT.out; simp [intOf]; omega⟩
              · have hee : i = m := by omega
                have hle : ¬ (i : Int) < (m : Int) := by omega
                have HJE : Kp (J = ⟨true, id, []⟩) := ⟨HMS.out.c hee HM0.out⟩
                have HIL : Kp (0 < l.length) := ⟨by rw [HL.out.len]; exact HM0.out⟩
                obtain ⟨yk, HPK⟩ : ∃ yk : Nat, Kp ((l[0]'(HIL.out)).at_ = yk ∧ (l[0]'(HIL.out)).id = id ∧ (l[0]'(HIL.out)).many = m ∧ (l[0]'(HIL.out)).l = pieceL bl sz yk ∧ yk < m) := by
                  obtain ⟨e1, e2, k, e3, e4, e5⟩ := HL.out.is 0 _ (List.getElem?_eq_getElem HIL.out)
                  exact ⟨k, ⟨e3, e1, e2, e5, e4⟩⟩
                have hyt := HJ.out.p.t _ (List.getElem_mem HIL.out)
                rw [HPK.out.2.2.2.1] at hyt
                obtain ⟨ya, yn, yc, ey, hyn⟩ := hyt.slice
                rw [ey] at hyt
                have HYR : Kp (wr.rangeAt Q (0 * 4) [.int .u32 id, .int .i64 (yk : Nat), .int .i64 (m : Nat), .slice ya yn yc]) := ⟨by
                  have h := (HJ.out.at HIL.out).1
                  unfold pcc at h
                  rw [HPK.out.1, HPK.out.2.1, HPK.out.2.2.1, ey] at h
                  exact h⟩
                have HYT := Kp.mk hyt
                have HPV : Kp (PvOk bl sz m id ⟨id, yk, m, ya, yn, yc⟩ yk) := ⟨⟨rfl, rfl, rfl, hyn, HPK.out.2.2.2.2, hm, HSZ.out.2⟩⟩
                have hm0' : (0 : Int) < (m : Int) := by have := HM0.out; omega
                clear hyt ey hyn hm hee
                go_wp2_with (refine wpList_load_mid rfl 30 (.tmp 214) rfl Q (0 * 4) rfl [.int .u32 id, .int .i64 (yk : Nat), .int .i64 (m : Nat), .slice ya yn yc] _ HYR.out Try.underlying30 rfl info30s ?_)
                refine (take_any G q J ⟨id, yk, m, ya, yn, yc⟩ (pieceL bl sz yk) wr HJ.out.j HYT.out HID.out).mono ?_
                rintro r w7 ⟨q', v', u', rfl, hs, -, -, -⟩
                rw [HJE.out, take_over HPV.out v'] at hs ⊢
                obtain ⟨q2, hq2⟩ := HJ.out.step hs
                have HJ7 := Kp.mk hq2
                simp only [] at HJ7
                clear hs hq2
                go_wp2_with fail
                refine (waits_any G q2 ⟨true, id, []⟩ w7 HJ7.out.j).mono ?_
                rintro r w8 ⟨rfl, hb8⟩
                have HB8 : Kp (Below w.heap.size w w8) := ⟨HJ7.out.b.trans (hb8.mono HJ7.out.b.size)⟩
                rw [show ((haves ([] : List PtV) : Nat) : Int) = 0 from rfl, show ((([] : List PtV).length : Nat) : Int) = 0 from rfl]
                clear hb8
                go_wp2_with fail
                refine (awake_any w8).mono ?_
                rintro r w9 ⟨rfl, hb9⟩
                have HB9 : Kp (Below w.heap.size w w9) := ⟨HB8.out.trans (hb9.mono HB8.out.size)⟩
                clear hb9
                go_wp2_with fail
                go_ret
                exact ⟨rfl, HB9.out⟩
end Go.Proofs.Ytlgcpfeaecpocaa
