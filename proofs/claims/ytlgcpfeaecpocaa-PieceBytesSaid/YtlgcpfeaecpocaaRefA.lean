/-
  The contracts of the document's In: Left, Raw.
-/
import Derived.Test.YtlgcpfeaecpocaaInD
namespace Go.Proofs.Ytlgcpfeaecpocaa
open Go.RowKit

/-- append to a row of the call's own, as one step of a region that draws its order. -/
theorem step_append_own {P : Program} {ops : Array Oper} {o : Oper} {a : Act} {w : World} {K : Act → World → Prop} {Q : Exit → Act → World → Prop} {E : Prop} (hgd : o.guard = none) (s x : Operand) (t : TypeId)
    (ho : o.op = .call { callee := .builtin .append, args := #[s, x], argTypes := #[t, t] })
    (base : Nat) (e : TypeId) (i : TypeInfo) (z : Value) (size bytes : Nat) (ht : P.underlying t = some (.slice e)) (hi : P.info? e = some i) (hz : i.zero = some z)
    (hsize : i.size = size) (hby : i.bytes = bytes) (hzs : z.cells.size = size) (hsz : 0 < size)
    (v : Value) (n : Nat) (xs : List Value) (hs : a.eval s = v) (hown : w.ownsRow base e size v n xs)
    (ad : Addr) (m c : Nat) (news : List Value) (hx : a.eval x = .slice (some ad) m c) (hl : news.length = m * size) (hnews : ∀ j u, news[j]? = some u → w.cell? (ad.add j) = some u) (h1 : ∀ u ∈ news, u.oneCell' = true)
    (h63 : n + m ≤ maxLen) (hbytes : (n + m) * bytes ≤ 140737488355328) (hbase : base ≤ w.heap.size)
    (h : ∀ v' w', Hid (w'.ownsRow base e size v' (n + m) (xs ++ news)) → Hid (w.grownBy w' v.ownBlock) → K (a.put o.dst v') w') :
    if Region.wanted o (yielded ops a.tmps) = true then Oper.wp P o a w K Q else E := by
  have hw : Region.wanted o (yielded ops a.tmps) = true := by simp [Region.wanted, hgd]
  rw [if_pos hw]
  exact wp_append_own w s x t ho base e i z size bytes ht hi hz hsize hby hzs hsz v n xs hs hown ad m c news hx hl hnews h1 h63 hbytes hbase fun v' w' h2 h3 _ => h v' w' h2 h3

abbrev refObj (v : Value) (at' : Nat) (e : Int) : Obj := .cells #[v, .int .i64 at', .int .i64 e] 81
/-- In block R stands the document's In of the bytes B, at that place, with that error. -/
structure RefIs (w : World) (M R : Nat) (B : List Int) (at' : Nat) (e : Int) : Prop where
  le : M ≤ R
  is : ∃ v, HoldsB w M v B ∧ Blk w R (refObj v at' e)
  at_ : at' ≤ B.length
structure RefStep (M R : Nat) (B : List Int) (at' : Nat) (e : Int) (w w' : World) : Prop where
  is : RefIs w' M R B at' e
  turn : ∃ o, Turn R o w w'
theorem RefIs.keep {w w' : World} {M R at' : Nat} {B : List Int} {e : Int} (h : RefIs w M R B at' e) (hb : Below w.heap.size w w') : RefIs w' M R B at' e := by
  obtain ⟨h1, ⟨v, hv, hB⟩, h3⟩ := h
  exact ⟨h1, ⟨v, hv.keep hb, hB.keep hb⟩, h3⟩
theorem RefIs.turn {w w' : World} {M R at' b : Nat} {o : Obj} {B : List Int} {e : Int} (h : RefIs w M R B at' e) (hb : Turn b o w w') (hM : M ≤ b) (hne : R ≠ b) : RefIs w' M R B at' e := by
  obtain ⟨h1, ⟨v, hv, hB⟩, h3⟩ := h
  exact ⟨h1, ⟨v, hv.turn hb hM, hb.keep hB hne⟩, h3⟩
theorem RefIs.lt {w : World} {M R at' : Nat} {B : List Int} {e : Int} (h : RefIs w M R B at' e) : R < w.heap.size := by
  obtain ⟨_, ⟨v, hv, hB⟩, _⟩ := h
  exact hB.lt
theorem RefIs.len {w : World} {M R at' : Nat} {B : List Int} {e : Int} (h : RefIs w M R B at' e) : B.length ≤ maxLen := by
  obtain ⟨_, ⟨v, hv, hB⟩, _⟩ := h
  exact hv.len
theorem RefIs.bytes {w : World} {M R at' : Nat} {B : List Int} {e : Int} (h : RefIs w M R B at' e) : Bytes B := by
  obtain ⟨_, ⟨v, hv, hB⟩, _⟩ := h
  exact hv.bytes
theorem RefIs.drew {w : World} {M R at' : Nat} {B : List Int} {e : Int} (h : RefIs w M R B at' e) : RefIs w.drew M R B at' e := ⟨h.le, h.is, h.at_⟩
theorem RefStep.same {w : World} {M R at' : Nat} {B : List Int} {e : Int} (h : RefIs w M R B at' e) : RefStep M R B at' e w w := by
  obtain ⟨h1, ⟨v, hv, hB⟩, h3⟩ := h
  exact ⟨⟨h1, ⟨v, hv, hB⟩, h3⟩, _, Turn.same hB⟩
theorem RefStep.below {w w' : World} {M R at' : Nat} {B : List Int} {e : Int} (h : RefIs w M R B at' e) (hb : Below w.heap.size w w') : RefStep M R B at' e w w' := by
  obtain ⟨h1, ⟨v, hv, hB⟩, h3⟩ := h
  exact ⟨⟨h1, ⟨v, hv.keep hb, hB.keep hb⟩, h3⟩, _, Turn.of hB hb⟩
theorem RefStep.trans {w w1 w2 : World} {M R at1 at2 : Nat} {B B2 : List Int} {e e2 : Int} (h : RefStep M R B at1 e w w1) (k : RefStep M R B2 at2 e2 w1 w2) : RefStep M R B2 at2 e2 w w2 := by
  obtain ⟨_, o, ho⟩ := h
  obtain ⟨h2, o', ho'⟩ := k
  exact ⟨h2, o', ho.trans ho'⟩
theorem RefStep.more {w w1 w2 : World} {M R at' : Nat} {B : List Int} {e : Int} (h : RefStep M R B at' e w w1) (k : Below w1.heap.size w1 w2) : RefStep M R B at' e w w2 := by
  obtain ⟨h1, o, ho⟩ := h
  exact ⟨h1.keep k, o, ho.more k⟩
theorem RefStep.ahead {w w1 w2 : World} {M R at' : Nat} {B : List Int} {e : Int} (h : Below w.heap.size w w1) (k : RefStep M R B at' e w1 w2) : RefStep M R B at' e w w2 := by
  obtain ⟨h1, o, ho⟩ := k
  exact ⟨h1, o, ho.ahead h⟩
theorem RefStep.size {w w1 : World} {M R at' : Nat} {B : List Int} {e : Int} (h : RefStep M R B at' e w w1) : w.heap.size ≤ w1.heap.size := by
  obtain ⟨h1, o, ho⟩ := h
  exact ho.size
theorem RefStep.keep {w w1 : World} {M R at' b : Nat} {B : List Int} {e : Int} {o : Obj} (h : RefStep M R B at' e w w1) (hb : Blk w b o) (hne : b ≠ R) : Blk w1 b o := by
  obtain ⟨h1, o, ho⟩ := h
  exact ho.keep hb hne
theorem RefStep.undrew {w w' : World} {M R at' : Nat} {B : List Int} {e : Int} (h : RefStep M R B at' e w.drew w') : RefStep M R B at' e w w' := by
  obtain ⟨h1, o, ho⟩ := h
  exact ⟨h1, o, ho.os, ho.tape, ho.output, ho.size, ho.blk, ho.other⟩

theorem RefIs.upto {w w' : World} {M R at' bb : Nat} {B : List Int} {e : Int} (h : RefIs w M R B at' e) (k : Below bb w w') (hB : R < bb) : RefIs w' M R B at' e := by
  obtain ⟨h1, ⟨v, hv, hb⟩, h3⟩ := h
  exact ⟨h1, ⟨v, hv.frame k.size fun i hi _ => k.block i (by omega), hb.upto k hB⟩, h3⟩
theorem RefStep.upto {w w1 w2 : World} {M R at' bb : Nat} {B : List Int} {e : Int} (h : RefStep M R B at' e w w1) (k : Below bb w1 w2) (hB : w.heap.size ≤ bb) (hR : R < w.heap.size) : RefStep M R B at' e w w2 := by
  obtain ⟨h1, o, ho⟩ := h
  exact ⟨h1.upto k (by omega), o, ho.upto k hB hR⟩
/-- What the document's Left answers. -/
def rleft (B : List Int) (at' : Nat) (e : Int) : Nat := if e = 0 then B.length - at' else 0

set_option maxHeartbeats 800000 in
theorem rleft_any (M R : Nat) (B : List Int) (at' : Nat) (e : Int) (w : World) (h : RefIs w M R B at' e) :
    Calls Try.prog 59 #[.pointer (some ⟨R, 0, none⟩)] w fun r w' => r = .returned (.int .i64 (rleft B at' e : Nat)) ∧ Below w.heap.size w w' := by
  have hl := h.len
  have ha := h.at_
  unfold maxLen at hl
  obtain ⟨_, ⟨v, hv, hB⟩, _⟩ := h
  obtain ⟨c0, c1, c2, -⟩ := hB.three
  obtain ⟨a, n, cap, rfl, hn⟩ := hv.slice
  have hn1 : (n : Int) ≤ 9223372036854775807 := by omega
  have ha1 : (at' : Int) ≤ n := by omega
  by_cases he : e = 0
  · have HV : Hid (((rleft B at' e : Nat) : Int) = (n : Int) - at') := by unfold Hid rleft; rw [if_pos he]; omega
    have t0 : (e == 0) = true := by simp [he]
    have hw16 : IntKind.i64.wrap ((n : Int) - at') = (n : Int) - at' := IntWalk.i64_in _ (by omega)
    clear hB hv hn he
    go_enter Try.func59, Try.ntmps59
    go_wp2_with fail
    go_quiet (fail)
    go_wp2_with fail
    go_ret
    exact ⟨reti HV.out.symm, ⟨rfl, rfl, rfl, Nat.le_refl _, fun _ _ => rfl⟩⟩
  · have HV : Hid (rleft B at' e = 0) := by unfold Hid rleft; rw [if_neg he]
    have t0 : (e == 0) = false := by simp [he]
    clear hB hv hn he
    go_enter Try.func59, Try.ntmps59
    go_wp2_with fail
    go_ret
    exact ⟨reti (by rw [HV.out]; rfl), Below.refl _ _⟩

/-- What the document's Raw answers, and what it makes of the place and the error. -/
def rawP (B : List Int) (at' : Nat) (e : Int) (k : Nat) : List Int := if e = 0 ∧ k ≤ B.length - at' then (B.drop at').take k else []
def rawA (B : List Int) (at' : Nat) (e : Int) (k : Nat) : Nat := if e = 0 ∧ k ≤ B.length - at' then at' + k else at'
def rawE (B : List Int) (at' : Nat) (e : Int) (k : Nat) : Int := if e = 0 ∧ B.length - at' < k then 9 else e

theorem one_newF (w : World) (v : Value) (t : TypeId) : ∀ j u, [v][j]? = some u → (w.alloc (.cells #[v] t)).cell? ((⟨w.heap.size, 0, none⟩ : Addr).add j) = some u := by
  intro j u hj
  match j, hj with
  | 0, hj =>
    simp at hj
    subst hj
    exact (Blk.new w (.cells #[v] t)).cell 0

set_option maxHeartbeats 1600000 in
theorem raw_any (M R : Nat) (B : List Int) (at' : Nat) (e : Int) (k : Nat) (w : World) (h : RefIs w M R B at' e) (hk : k ≤ 65535) :
    Calls Try.prog 58 #[.pointer (some ⟨R, 0, none⟩), .int .i64 k] w fun r w' => ∃ v, r = .returned v ∧ w'.ownsRow w.heap.size 5 1 v (rawP B at' e k).length (bv (rawP B at' e k)) ∧ RefStep M R B (rawA B at' e k) (rawE B at' e k) w w' := by
  have HH := Lib.hid h
  have hl := h.len
  have ha := h.at_
  have hM := h.le
  unfold maxLen at hl
  by_cases he : e = 0
  · obtain ⟨_, ⟨v, hv, hB⟩, _⟩ := h
    obtain ⟨c0, c1, c2, f0, f1, f2⟩ := hB.three
    obtain ⟨a, n, cap, rfl, hn⟩ := hv.slice
    have lR := hB.lt
    have HV := Lib.hid hv
    have HB := Lib.hid hB
    have hn1 : (n : Int) ≤ 9223372036854775807 := by omega
    have ha1 : (at' : Int) ≤ n := by omega
    have t0 : (e == 0) = true := by simp [he]
    have t0' : (e != 0) = false := by simp [he]
    have hw16 : IntKind.i64.wrap ((n : Int) - at') = (n : Int) - at' := IntWalk.i64_in _ (by omega)
    by_cases hs : B.length - at' < k
    · have HP : Hid (rawP B at' e k = [] ∧ rawA B at' e k = at' ∧ rawE B at' e k = 9) := by
        unfold Hid rawP rawA rawE
        rw [if_neg (by omega), if_neg (by omega), if_pos ⟨he, hs⟩]
        exact ⟨rfl, rfl, rfl⟩
      have t1 : decide ((n : Int) - at' < k) = true := by simp; omega
      clear hB hv hn he hs
      go_enter Try.func58, Try.ntmps58
      go_wp2_with fail
      go_quiet (fail)
      go_wp2_with fail
      go_ret
      obtain ⟨h1, h2, h3⟩ := HP.out
      rw [h1, h2, h3]
      refine ⟨_, rfl, World.ownsRow_nil _ _ _ _, ⟨hM, ⟨_, HV.out.turn (((Turn.same HB.out).drewN _).set 2 _) hM, ((((Turn.same HB.out).drewN _).set 2 _).as rfl).blk⟩, ha⟩, _, ((Turn.same HB.out).drewN _).set 2 _⟩
    · have HP : Hid (rawP B at' e k = (B.drop at').take k ∧ rawA B at' e k = at' + k ∧ rawE B at' e k = e) := by
        unfold Hid rawP rawA rawE
        rw [if_pos ⟨he, by omega⟩, if_pos ⟨he, by omega⟩, if_neg (by omega)]
        exact ⟨rfl, rfl, rfl⟩
      have t1 : decide ((n : Int) - at' < k) = false := by simp; omega
      have hak : at' + k ≤ n := by omega
      have HN := Lib.hid hn
      obtain ⟨i0, hi, hz0, hz1, hz2⟩ := info_parts info5
      clear hB hv hn he hs
      go_enter Try.func58, Try.ntmps58
      go_wp2_with fail
      go_quiet (fail)
      go_wp2_with fail
      have HST := Lib.hid (And.intro (World.ownsRow_nil (w.drewN nq) w.heap.size 5 1) (show Below w.heap.size w (w.drewN nq) from ⟨rfl, rfl, rfl, Nat.le_refl _, fun _ _ => rfl⟩))
      revert HST
      generalize w.drewN nq = W1
      intro HST
      go_loopw [5, 6] (fun v c wr => ∃ i : Nat, i ≤ k ∧ c = .int .i64 i ∧ wr.ownsRow w.heap.size 5 1 v i (bv ((B.drop at').take i)) ∧ Below w.heap.size w wr) (fun _ c _ => k - (intOf c).toNat)
      case atStart => exact ⟨0, by omega, rfl, HST.out⟩
      case round =>
        obtain ⟨i, hi', rfl, ho, hE⟩ := hrel
        have HO := Lib.hid ho
        have HE := Lib.hid hE
        by_cases hlt : i < k
        · have hBR := HB.out.keep hE
          obtain ⟨c0', c1', c2', -⟩ := hBR.three
          obtain ⟨b, off, rfl, -, hc⟩ := (HV.out.keep hE).cellAt (i := at' + i) (by have := HN.out; omega)
          have HX : Hid (bv ((B.drop at').take (i + 1)) = bv ((B.drop at').take i) ++ [.int .u8 (B.getD (at' + i) 0)]) := by
            unfold Hid bv
            have hdl : i < (B.drop at').length := by rw [List.length_drop]; have := HN.out; omega
            rw [List.take_succ_eq_append_getElem hdl, List.map_append, List.getElem_drop, List.getD_eq_getElem?_getD, List.getElem?_eq_getElem (by have := HN.out; omega)]
            rfl
          generalize B.getD (at' + i) 0 = x at hc HX
          have hwi : IntKind.i64.wrap ((at' : Int) + i) = (at' : Int) + i := IntWalk.i64_in _ (by omega)
          have hti : ((at' : Int) + i).toNat = at' + i := by omega
          have hti0 : (0 : Int) ≤ (at' : Int) + i := by omega
          have hti1 : (at' : Int) + i < n := by omega
          clear ho hE hBR c0 c1 c2
          go_wp2_with fail
          go_region_law (refine step_append_own rfl (.tmp 32) (.tmp 45) 23 rfl w.heap.size 5 i0 (.int .u8 0) 1 1 Try.underlying23 hi hz0 hz1 hz2 rfl (by decide) _ _ _ (by simp [Act.eval, Act.put]) (HO.out.alloc _) ⟨wr.heap.size, 0, none⟩ 1 1 [.int .u8 x] (by simp [Act.eval, Act.put]) rfl (one_newF _ _ _) (by simp [Value.oneCell']) (by unfold maxLen; omega) (by omega) (by have := HE.out.size; simp; omega) ?_; intro v' w4 ho4 hg4)
          all_goals
            have HO4 := ho4
            have HB4 : Hid (Below w.heap.size w w4) := below_row_grown ((HE.out.drew).alloc HE.out.size _) (by have := HE.out.size; simp; omega) (HO.out.alloc _) hg4.out
            clear ho4 hg4
            go_wp2_with fail
            exact ⟨⟨i + 1, by omega, by go_num, by rw [HX.out]; exact HO4.out, HB4.out⟩, by simp [intOf]; omega⟩
        · obtain rfl : i = k := by omega
          have hBR := HB.out.keep hE
          obtain ⟨c0', c1', c2', f0', f1', f2'⟩ := hBR.three
          have lR' := hBR.lt
          have HBR := Lib.hid hBR
          have hwi : IntKind.i64.wrap ((at' : Int) + i) = (at' : Int) + i := IntWalk.i64_in _ (by omega)
          have lR0 := lR
          clear ho hE hBR c0 c1 c2 f0 f1 f2 lR
          go_wp2_with fail
          go_ret
          obtain ⟨h1, h2, h3⟩ := HP.out
          rw [h1, h2, h3]
          have hT : Turn R (refObj (.slice a n cap) (at' + i) e) w (wr.setCell ⟨R, 1, none⟩ (.int .i64 ((at' : Int) + i))) := ((Turn.ahead HE.out (Turn.same HBR.out)).set 1 _).as (by simp)
          refine ⟨_, rfl, ?_, ⟨hM, ⟨_, HV.out.turn hT hM, hT.blk⟩, by have := HN.out; omega⟩, _, hT⟩
          have hlen : ((B.drop at').take i).length = i := by rw [List.length_take, List.length_drop]; have := HN.out; omega
          rw [hlen]
          exact ownsRow_setCell_below HO.out (show R < w.heap.size from lR0) _
  · have HP : Hid (rawP B at' e k = [] ∧ rawA B at' e k = at' ∧ rawE B at' e k = e) := by
      unfold Hid rawP rawA rawE
      rw [if_neg (by omega), if_neg (by omega), if_neg (by omega)]
      exact ⟨rfl, rfl, rfl⟩
    obtain ⟨_, ⟨v, hv, hB⟩, _⟩ := h
    obtain ⟨c0, c1, c2, f0, f1, f2⟩ := hB.three
    have t0 : (e == 0) = false := by simp [he]
    clear hB hv he
    go_enter Try.func58, Try.ntmps58
    go_wp2_with fail
    go_ret
    obtain ⟨h1, h2, h3⟩ := HP.out
    rw [h1, h2, h3]
    exact ⟨_, rfl, World.ownsRow_nil _ _ _ _, RefStep.same HH.out⟩
end Go.Proofs.Ytlgcpfeaecpocaa
