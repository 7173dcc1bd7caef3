/-
  The contracts of the document's In: Left, Raw.
  The contracts of the document's In: numbers, short sums, blobs, End.
  The contract of the document's In's Sums.
  The contracts of the document's In's Sums, whole, and Blob.
  In and the document's In go together: plain facts on their bytes, places and errors.
  The contracts of In's short sums.
  The contract of the document's In's Sum.
  Field: numbers of eight bytes, short sums.
  The words of a block: sha.schedule.
-/
import Derived.Test.YtgabjmmmiogfjaaDoorRt04
import Derived.StillTailTactics
import Derived.BigRegion
namespace Go.Proofs.YtgabjmmmiogfjaaDoor
open Go.RowKit

/-- append to a row of the call's own, as one step of a region that draws its order. -/
theorem step_append_own {P : Program} {ops : Array Oper} {o : Oper} {a : Act} {w : World} {K : Act → World → Prop} {Q : Exit → Act → World → Prop} {E : Prop} (hgd : o.guard = none) (s x : Operand) (t : TypeId)
    (ho : o.op = .call { callee := .builtin .append, args := #[s, x], argTypes := #[t, t] })
    (base : Nat) (e : TypeId) (i : TypeInfo) (z : Value) (size bytes : Nat) (ht : P.underlying t = some (.slice e)) (hi : P.info? e = some i) (hz : i.zero = some z)
    (hsize : i.size = size) (hby : i.bytes = bytes) (hzs : z.cells.size = size) (hsz : 0 < size)
    (v : Value) (n : Nat) (xs : List Value) (hs : a.eval s = v) (hown : w.ownsRow base e size v n xs)
    (ad : Addr) (m c : Nat) (news : List Value) (hx : a.eval x = .slice (some ad) m c) (hl : news.length = m * size) (hnews : ∀ j u, news[j]? = some u → w.cell? (ad.add j) = some u) (h1 : ∀ u ∈ news, u.oneCell' = true)
    (h63 : n + m ≤ maxLen) (hbytes : (n + m) * bytes ≤ 140737488355328) (hbase : base ≤ w.heap.size)
    (h : ∀ v' w', Hid (w'.ownsRow base e size v' (n + m) (xs ++ news)) → Hid (w.grownBy w' v.ownBlock) → K (a.put o.dst v') w') :
    if Region.wanted o (yielded ops a.tmps) = true then Oper.wp P o a w K Q else E := by
  have hw : Region.wanted o (yielded ops a.tmps) = true := by simp [Region.wanted, hgd]
  rw [if_pos hw]
  exact wp_append_own w s x t ho base e i z size bytes ht hi hz hsize hby hzs hsz v n xs hs hown ad m c news hx hl hnews h1 h63 hbytes hbase fun v' w' h2 h3 _ => h v' w' h2 h3

abbrev refObj (v : Value) (at' : Nat) (e : Int) : Obj := .cells #[v, .int .i64 at', .int .i64 e] 92
/-- In block R stands the document's In of the bytes B, at that place, with that error. -/
structure RefIs (w : World) (M R : Nat) (B : List Int) (at' : Nat) (e : Int) : Prop where
  le : M ≤ R
  is : ∃ v, HoldsB w M v B ∧ Blk w R (refObj v at' e)
  at_ : at' ≤ B.length
structure RefStep (M R : Nat) (B : List Int) (at' : Nat) (e : Int) (w w' : World) : Prop where
  is : RefIs w' M R B at' e
  turn : ∃ o, Turn R o w w'
theorem RefIs.keep {w w' : World} {M R at' : Nat} {B : List Int} {e : Int} (h : RefIs w M R B at' e) (hb : Below w.heap.size w w') : RefIs w' M R B at' e := by
  obtain ⟨h1, ⟨v, hv, hB⟩, h3⟩ := h
  exact ⟨h1, ⟨v, hv.keep hb, hB.keep hb⟩, h3⟩
theorem RefIs.turn {w w' : World} {M R at' b : Nat} {o : Obj} {B : List Int} {e : Int} (h : RefIs w M R B at' e) (hb : Turn b o w w') (hM : M ≤ b) (hne : R ≠ b) : RefIs w' M R B at' e := by
  obtain ⟨h1, ⟨v, hv, hB⟩, h3⟩ := h
  exact ⟨h1, ⟨v, hv.turn hb hM, hb.keep hB hne⟩, h3⟩
theorem RefIs.lt {w : World} {M R at' : Nat} {B : List Int} {e : Int} (h : RefIs w M R B at' e) : R < w.heap.size := by
  obtain ⟨_, ⟨v, hv, hB⟩, _⟩ := h
  exact hB.lt
theorem RefIs.len {w : World} {M R at' : Nat} {B : List Int} {e : Int} (h : RefIs w M R B at' e) : B.length ≤ maxLen := by
  obtain ⟨_, ⟨v, hv, hB⟩, _⟩ := h
  exact hv.len
theorem RefIs.bytes {w : World} {M R at' : Nat} {B : List Int} {e : Int} (h : RefIs w M R B at' e) : Bytes B := by
  obtain ⟨_, ⟨v, hv, hB⟩, _⟩ := h
  exact hv.bytes
theorem RefIs.drew {w : World} {M R at' : Nat} {B : List Int} {e : Int} (h : RefIs w M R B at' e) : RefIs w.drew M R B at' e := ⟨h.le, h.is, h.at_⟩
theorem RefStep.same {w : World} {M R at' : Nat} {B : List Int} {e : Int} (h : RefIs w M R B at' e) : RefStep M R B at' e w w := by
  obtain ⟨h1, ⟨v, hv, hB⟩, h3⟩ := h
  exact ⟨⟨h1, ⟨v, hv, hB⟩, h3⟩, _, Turn.same hB⟩
theorem RefStep.below {w w' : World} {M R at' : Nat} {B : List Int} {e : Int} (h : RefIs w M R B at' e) (hb : Below w.heap.size w w') : RefStep M R B at' e w w' := by
  obtain ⟨h1, ⟨v, hv, hB⟩, h3⟩ := h
  exact ⟨⟨h1, ⟨v, hv.keep hb, hB.keep hb⟩, h3⟩, _, Turn.of hB hb⟩
theorem RefStep.trans {w w1 w2 : World} {M R at1 at2 : Nat} {B B2 : List Int} {e e2 : Int} (h : RefStep M R B at1 e w w1) (k : RefStep M R B2 at2 e2 w1 w2) : RefStep M R B2 at2 e2 w w2 := by
  obtain ⟨_, o, ho⟩ := h
  obtain ⟨h2, o', ho'⟩ := k
  exact ⟨h2, o', ho.trans ho'⟩
theorem RefStep.more {w w1 w2 : World} {M R at' : Nat} {B : List Int} {e : Int} (h : RefStep M R B at' e w w1) (k : Below w1.heap.size w1 w2) : RefStep M R B at' e w w2 := by
  obtain ⟨h1, o, ho⟩ := h
  exact ⟨h1.keep k, o, ho.more k⟩
theorem RefStep.ahead {w w1 w2 : World} {M R at' : Nat} {B : List Int} {e : Int} (h : Below w.heap.size w w1) (k : RefStep M R B at' e w1 w2) : RefStep M R B at' e w w2 := by
  obtain ⟨h1, o, ho⟩ := k
  exact ⟨h1, o, ho.ahead h⟩
theorem RefStep.size {w w1 : World} {M R at' : Nat} {B : List Int} {e : Int} (h : RefStep M R B at' e w w1) : w.heap.size ≤ w1.heap.size := by
  obtain ⟨h1, o, ho⟩ := h
  exact ho.size
theorem RefStep.keep {w w1 : World} {M R at' b : Nat} {B : List Int} {e : Int} {o : Obj} (h : RefStep M R B at' e w w1) (hb : Blk w b o) (hne : b ≠ R) : Blk w1 b o := by
  obtain ⟨h1, o, ho⟩ := h
  exact ho.keep hb hne
theorem RefStep.undrew {w w' : World} {M R at' : Nat} {B : List Int} {e : Int} (h : RefStep M R B at' e w.drew w') : RefStep M R B at' e w w' := by
  obtain ⟨h1, o, ho⟩ := h
  exact ⟨h1, o, ho.os, ho.tape, ho.output, ho.size, ho.blk, ho.other⟩

theorem RefIs.upto {w w' : World} {M R at' bb : Nat} {B : List Int} {e : Int} (h : RefIs w M R B at' e) (k : Below bb w w') (hB : R < bb) : RefIs w' M R B at' e := by
  obtain ⟨h1, ⟨v, hv, hb⟩, h3⟩ := h
  exact ⟨h1, ⟨v, hv.frame k.size fun i hi _ => k.block i (by omega), hb.upto k hB⟩, h3⟩
theorem RefStep.upto {w w1 w2 : World} {M R at' bb : Nat} {B : List Int} {e : Int} (h : RefStep M R B at' e w w1) (k : Below bb w1 w2) (hB : w.heap.size ≤ bb) (hR : R < w.heap.size) : RefStep M R B at' e w w2 := by
  obtain ⟨h1, o, ho⟩ := h
  exact ⟨h1.upto k (by omega), o, ho.upto k hB hR⟩
/-- What the document's Left answers. -/
def rleft (B : List Int) (at' : Nat) (e : Int) : Nat := if e = 0 then B.length - at' else 0

set_option maxHeartbeats 800000 in
theorem rleft_any (M R : Nat) (B : List Int) (at' : Nat) (e : Int) (w : World) (h : RefIs w M R B at' e) :
    Calls Tryd.prog 84 #[.pointer (some ⟨R, 0, none⟩)] w fun r w' => r = .returned (.int .i64 (rleft B at' e : Nat)) ∧ Below w.heap.size w w' := by
  have hl := h.len
  have ha := h.at_
  unfold maxLen at hl
  obtain ⟨_, ⟨v, hv, hB⟩, _⟩ := h
  obtain ⟨c0, c1, c2, -⟩ := hB.three
  obtain ⟨a, n, cap, rfl, hn⟩ := hv.slice
  have hn1 : (n : Int) ≤ 9223372036854775807 := by omega
  have ha1 : (at' : Int) ≤ n := by omega
  by_cases he : e = 0
  · have HV : Hid (((rleft B at' e : Nat) : Int) = (n : Int) - at') := by unfold Hid rleft; rw [if_pos he]; omega
    have t0 : (e == 0) = true := by simp [he]
    have hw16 : IntKind.i64.wrap ((n : Int) - at') = (n : Int) - at' := IntWalk.i64_in _ (by omega)
    clear hB hv hn he
    go_enter Tryd.func84, Tryd.ntmps84
    go_wp2_with fail
    go_quiet (fail)
    go_wp2_with fail
    go_ret
    exact ⟨reti HV.out.symm, ⟨rfl, rfl, rfl, Nat.le_refl _, fun _ _ => rfl⟩⟩
  · have HV : Hid (rleft B at' e = 0) := by unfold Hid rleft; rw [if_neg he]
    have t0 : (e == 0) = false := by simp [he]
    clear hB hv hn he
    go_enter Tryd.func84, Tryd.ntmps84
    go_wp2_with fail
    go_ret
    exact ⟨reti (by rw [HV.out]; rfl), Below.refl _ _⟩

/-- What the document's Raw answers, and what it makes of the place and the error. -/
def rawP (B : List Int) (at' : Nat) (e : Int) (k : Nat) : List Int := if e = 0 ∧ k ≤ B.length - at' then (B.drop at').take k else []
def rawA (B : List Int) (at' : Nat) (e : Int) (k : Nat) : Nat := if e = 0 ∧ k ≤ B.length - at' then at' + k else at'
def rawE (B : List Int) (at' : Nat) (e : Int) (k : Nat) : Int := if e = 0 ∧ B.length - at' < k then 9 else e

theorem one_newF (w : World) (v : Value) (t : TypeId) : ∀ j u, [v][j]? = some u → (w.alloc (.cells #[v] t)).cell? ((⟨w.heap.size, 0, none⟩ : Addr).add j) = some u := by
  intro j u hj
  match j, hj with
  | 0, hj =>
    simp at hj
    subst hj
    exact (Blk.new w (.cells #[v] t)).cell 0

set_option maxRecDepth 100000 in
set_option maxHeartbeats 1600000 in
theorem raw_any (M R : Nat) (B : List Int) (at' : Nat) (e : Int) (k : Nat) (w : World) (h : RefIs w M R B at' e) (hk : k ≤ 65535) :
    Calls Tryd.prog 83 #[.pointer (some ⟨R, 0, none⟩), .int .i64 k] w fun r w' => ∃ v, r = .returned v ∧ w'.ownsRow w.heap.size 5 1 v (rawP B at' e k).length (bv (rawP B at' e k)) ∧ RefStep M R B (rawA B at' e k) (rawE B at' e k) w w' := by
  have HH := Lib.hid h
  have hl := h.len
  have ha := h.at_
  have hM := h.le
  unfold maxLen at hl
  by_cases he : e = 0
  · obtain ⟨_, ⟨v, hv, hB⟩, _⟩ := h
    obtain ⟨c0, c1, c2, f0, f1, f2⟩ := hB.three
    obtain ⟨a, n, cap, rfl, hn⟩ := hv.slice
    have lR := hB.lt
    have HV := Lib.hid hv
    have HB := Lib.hid hB
    have hn1 : (n : Int) ≤ 9223372036854775807 := by omega
    have ha1 : (at' : Int) ≤ n := by omega
    have t0 : (e == 0) = true := by simp [he]
    have t0' : (e != 0) = false := by simp [he]
    have hw16 : IntKind.i64.wrap ((n : Int) - at') = (n : Int) - at' := IntWalk.i64_in _ (by omega)
    by_cases hs : B.length - at' < k
    · have HP : Hid (rawP B at' e k = [] ∧ rawA B at' e k = at' ∧ rawE B at' e k = 9) := by
        unfold Hid rawP rawA rawE
        rw [if_neg (by omega), if_neg (by omega), if_pos ⟨he, hs⟩]
        exact ⟨rfl, rfl, rfl⟩
      have t1 : decide ((n : Int) - at' < k) = true := by simp; omega
      clear hB hv hn he hs
      go_enter Tryd.func83, Tryd.ntmps83
      go_wp2_with fail
      go_quiet (fail)
      go_wp2_with fail
      go_ret
      obtain ⟨h1, h2, h3⟩ := HP.out
      rw [h1, h2, h3]
      refine ⟨_, rfl, World.ownsRow_nil _ _ _ _, ⟨hM, ⟨_, HV.out.turn (((Turn.same HB.out).drewN _).set 2 _) hM, ((((Turn.same HB.out).drewN _).set 2 _).as rfl).blk⟩, ha⟩, _, ((Turn.same HB.out).drewN _).set 2 _⟩
    · have HP : Hid (rawP B at' e k = (B.drop at').take k ∧ rawA B at' e k = at' + k ∧ rawE B at' e k = e) := by
        unfold Hid rawP rawA rawE
        rw [if_pos ⟨he, by omega⟩, if_pos ⟨he, by omega⟩, if_neg (by omega)]
        exact ⟨rfl, rfl, rfl⟩
      have t1 : decide ((n : Int) - at' < k) = false := by simp; omega
      have hak : at' + k ≤ n := by omega
      have HN := Lib.hid hn
      obtain ⟨i0, hi, hz0, hz1, hz2⟩ := info_parts info5
      clear hB hv hn he hs
      go_enter Tryd.func83, Tryd.ntmps83
      go_wp2_with fail
      go_quiet (fail)
      go_wp2_with fail
      have HST := Lib.hid (And.intro (World.ownsRow_nil (w.drewN nq) w.heap.size 5 1) (show Below w.heap.size w (w.drewN nq) from ⟨rfl, rfl, rfl, Nat.le_refl _, fun _ _ => rfl⟩))
      revert HST
      generalize w.drewN nq = W1
      intro HST
      go_loopw [5, 6] (fun v c wr => ∃ i : Nat, i ≤ k ∧ c = .int .i64 i ∧ wr.ownsRow w.heap.size 5 1 v i (bv ((B.drop at').take i)) ∧ Below w.heap.size w wr) (fun _ c _ => k - (intOf c).toNat)
      case atStart => exact ⟨0, by omega, rfl, HST.out⟩
      case round =>
        obtain ⟨i, hi', rfl, ho, hE⟩ := hrel
        have HO := Lib.hid ho
        have HE := Lib.hid hE
        by_cases hlt : i < k
        · have hBR := HB.out.keep hE
          obtain ⟨c0', c1', c2', -⟩ := hBR.three
          obtain ⟨b, off, rfl, -, hc⟩ := (HV.out.keep hE).cellAt (i := at' + i) (by have := HN.out; omega)
          have HX : Hid (bv ((B.drop at').take (i + 1)) = bv ((B.drop at').take i) ++ [.int .u8 (B.getD (at' + i) 0)]) := by
            unfold Hid bv
            have hdl : i < (B.drop at').length := by rw [List.length_drop]; have := HN.out; omega
            rw [List.take_succ_eq_append_getElem hdl, List.map_append, List.getElem_drop, List.getD_eq_getElem?_getD, List.getElem?_eq_getElem (by have := HN.out; omega)]
            rfl
          generalize B.getD (at' + i) 0 = x at hc HX
          have hwi : IntKind.i64.wrap ((at' : Int) + i) = (at' : Int) + i := IntWalk.i64_in _ (by omega)
          have hti : ((at' : Int) + i).toNat = at' + i := by omega
          have hti0 : (0 : Int) ≤ (at' : Int) + i := by omega
          have hti1 : (at' : Int) + i < n := by omega
          clear ho hE hBR c0 c1 c2
          go_wp2_with fail
          go_region_law (refine step_append_own rfl (.tmp 32) (.tmp 45) 24 rfl w.heap.size 5 i0 (.int .u8 0) 1 1 Tryd.underlying24 hi hz0 hz1 hz2 rfl (by decide) _ _ _ (by simp [Act.eval, Act.put]) (HO.out.alloc _) ⟨wr.heap.size, 0, none⟩ 1 1 [.int .u8 x] (by simp [Act.eval, Act.put]) rfl (one_newF _ _ _) (by simp [Value.oneCell']) (by unfold maxLen; omega) (by omega) (by have := HE.out.size; simp; omega) ?_; intro v' w4 ho4 hg4)
          all_goals
            have HO4 := ho4
            have HB4 : Hid (Below w.heap.size w w4) := below_row_grown ((HE.out.drew).alloc HE.out.size _) (by have := HE.out.size; simp; omega) (HO.out.alloc _) hg4.out
            clear ho4 hg4
            go_wp2_with fail
            exact ⟨⟨i + 1, by omega, by go_num, by rw [HX.out]; exact HO4.out, HB4.out⟩, by simp [intOf]; omega⟩
        · obtain rfl : i = k := by omega
          have hBR := HB.out.keep hE
          obtain ⟨c0', c1', c2', f0', f1', f2'⟩ := hBR.three
          have lR' := hBR.lt
          have HBR := Lib.hid hBR
          have hwi : IntKind.i64.wrap ((at' : Int) + i) = (at' : Int) + i := IntWalk.i64_in _ (by omega)
          have lR0 := lR
          clear ho hE hBR c0 c1 c2 f0 f1 f2 lR
          go_wp2_with fail
          go_ret
          obtain ⟨h1, h2, h3⟩ := HP.out
          rw [h1, h2, h3]
          have hT : Turn R (refObj (.slice a n cap) (at' + i) e) w (wr.setCell ⟨R, 1, none⟩ (.int .i64 ((at' : Int) + i))) := ((Turn.ahead HE.out (Turn.same HBR.out)).set 1 _).as (by simp)
          refine ⟨_, rfl, ?_, ⟨hM, ⟨_, HV.out.turn hT hM, hT.blk⟩, by have := HN.out; omega⟩, _, hT⟩
          have hlen : ((B.drop at').take i).length = i := by rw [List.length_take, List.length_drop]; have := HN.out; omega
          rw [hlen]
          exact ownsRow_setCell_below HO.out (show R < w.heap.size from lR0) _
  · have HP : Hid (rawP B at' e k = [] ∧ rawA B at' e k = at' ∧ rawE B at' e k = e) := by
      unfold Hid rawP rawA rawE
      rw [if_neg (by omega), if_neg (by omega), if_neg (by omega)]
      exact ⟨rfl, rfl, rfl⟩
    obtain ⟨_, ⟨v, hv, hB⟩, _⟩ := h
    obtain ⟨c0, c1, c2, f0, f1, f2⟩ := hB.three
    have t0 : (e == 0) = false := by simp [he]
    clear hB hv he
    go_enter Tryd.func83, Tryd.ntmps83
    go_wp2_with fail
    go_ret
    obtain ⟨h1, h2, h3⟩ := HP.out
    rw [h1, h2, h3]
    exact ⟨_, rfl, World.ownsRow_nil _ _ _ _, RefStep.same HH.out⟩
end Go.Proofs.YtgabjmmmiogfjaaDoor

namespace Go.Proofs.YtgabjmmmiogfjaaDoor
open Go.RowKit

theorem rawP_len (B : List Int) (at' : Nat) (e : Int) (k : Nat) : (rawP B at' e k).length ≤ k := by unfold rawP; split <;> simp <;> omega
theorem rawP_bytes {B : List Int} (h : Bytes B) (at' : Nat) (e : Int) (k : Nat) : Bytes (rawP B at' e k) := by
  unfold rawP
  split
  · exact (h.drop _).take k
  · exact Bytes.nil

set_option maxHeartbeats 1600000 in
theorem num_any (M R : Nat) (B : List Int) (at' : Nat) (e : Int) (k : Nat) (w : World) (h : RefIs w M R B at' e) (hk : k ≤ 8) :
    Calls Tryd.prog 42 #[.pointer (some ⟨R, 0, none⟩), .int .i64 k] w fun r w' => r = .returned (.int .u64 (numOf (rawP B at' e k))) ∧ RefStep M R B (rawA B at' e k) (rawE B at' e k) w w' := by
  have hbytes := rawP_bytes h.bytes at' e k
  go_enter Tryd.func42, Tryd.ntmps42
  go_wp2_with fail
  refine (raw_any M R B at' e k _ h (by omega)).mono ?_
  rintro r w1 ⟨v, rfl, hp, h1⟩
  have H1 := Lib.hid h1
  have hlen := rawP_len B at' e k
  obtain ⟨p, hpe⟩ : ∃ p, rawP B at' e k = p := ⟨_, rfl⟩
  rw [hpe] at hp hlen hbytes
  have HPE := Lib.hid hpe
  clear hpe
  have hv := HoldsB.ofRow hbytes hp
  obtain ⟨a, n, cap, rfl, hn⟩ := hv.slice
  have HP := Lib.hid hv
  have HN := Lib.hid hn
  have hn8 : n ≤ 8 := by omega
  clear h h1 hp hn hlen hv hbytes
  go_wp2_with fail
  go_loop [6, 7] (fun m c => ∃ i : Nat, i ≤ n ∧ c = .int .i64 i ∧ m = .int .u64 (numOf (p.take i))) (fun _ c => n - (intOf c).toNat)
  case atStart => exact ⟨0, by omega, rfl, rfl⟩
  case round =>
    obtain ⟨i, hi, rfl, rfl⟩ := hrel
    by_cases hlt : i < n
    · obtain ⟨b, off, rfl, -, hc⟩ := HP.out.cellAt (i := i) (by have := HN.out; omega)
      have hx := HP.out.bytes.at (i := i) (by have := HN.out; omega)
      have HX : Hid (numOf (p.take (i + 1)) = (numOf (p.take i) * 256 + p.getD i 0) % 18446744073709551616) := numOf_take (by have := HN.out; omega)
      generalize p.getD i 0 = x at *
      have HS := Lib.hid (add_step (numOf (p.take i)) x hx.1 hx.2)
      clear hx
      go_wp2_with fail
      exact ⟨⟨i + 1, by omega, by go_num, by rw [HX.out, HS.out]⟩, by simp [intOf]; omega⟩
    · obtain rfl : i = n := by omega
      have hz : Hid (numOf (p.take i) = numOf (rawP B at' e k)) := by unfold Hid; rw [HPE.out, HN.out, List.take_length]
      go_wp2_with fail
      go_ret
      exact ⟨reti hz.out, H1.out⟩

set_option maxHeartbeats 800000 in
theorem rend_any (M R : Nat) (B : List Int) (at' : Nat) (e : Int) (w : World) (h : RefIs w M R B at' e) :
    Calls Tryd.prog 45 #[.pointer (some ⟨R, 0, none⟩)] w fun r w' => r = .returned (.int .i64 (if 0 < rleft B at' e then 10 else e)) ∧ ∃ o, Turn R o w w' := by
  have HH := Lib.hid h
  obtain ⟨_, ⟨v, hv, hB⟩, _⟩ := h
  have HB := Lib.hid hB
  clear hv hB
  by_cases hl : 0 < rleft B at' e
  · have hl' : (0 : Int) < (rleft B at' e : Nat) := by omega
    rw [if_pos hl]
    generalize hL : rleft B at' e = L at *
    have HL := Lib.hid hL
    clear hL hl
    go_enter Tryd.func45, Tryd.ntmps45
    go_wp2_with fail
    refine (rleft_any M R B at' e _ HH.out).mono ?_
    rintro r w1 ⟨rfl, hb⟩
    rw [HL.out]
    have HB1 := Lib.hid hb
    have hB1 := HB.out.keep hb
    obtain ⟨c0, c1, c2, f0, f1, f2⟩ := hB1.three
    have lR := hB1.lt
    have HB2 := Lib.hid hB1
    clear hb hB1
    go_wp2_with fail
    go_ret
    exact ⟨rfl, _, Turn.ahead HB1.out ((Turn.same HB2.out).set 2 _)⟩
  · have hl' : ((rleft B at' e : Nat) : Int) ≤ 0 := by omega
    rw [if_neg hl]
    generalize hL : rleft B at' e = L at *
    have HL := Lib.hid hL
    clear hL hl
    go_enter Tryd.func45, Tryd.ntmps45
    go_wp2_with fail
    refine (rleft_any M R B at' e _ HH.out).mono ?_
    rintro r w1 ⟨rfl, hb⟩
    rw [HL.out]
    have HB1 := Lib.hid hb
    have hB1 := HB.out.keep hb
    obtain ⟨c0, c1, c2, f0, f1, f2⟩ := hB1.three
    have lR := hB1.lt
    have HB2 := Lib.hid hB1
    clear hb hB1
    go_wp2_with fail
    go_ret
    exact ⟨rfl, _, Turn.ahead HB1.out (Turn.same HB2.out)⟩
end Go.Proofs.YtgabjmmmiogfjaaDoor

namespace Go.Proofs.YtgabjmmmiogfjaaDoor
open Go.RowKit

def cnt1 (B : List Int) (at' : Nat) (e : Int) : Nat := (numOf (rawP B at' e 1)).toNat
def overF (most : Int) (n : Nat) : Bool := decide ((if most < 0 then 0 else most) < (n : Int))
def rsumsE (B : List Int) (at' : Nat) (e most : Int) : Int :=
  if rawE B at' e 1 ≠ 0 then rawE B at' e 1 else if overF most (cnt1 B at' e) then 8 else if cnt1 B at' e * 16 ≤ B.length - rawA B at' e 1 then 0 else 9
def rsumsA (B : List Int) (at' : Nat) (e most : Int) : Nat :=
  if rawE B at' e 1 ≠ 0 then rawA B at' e 1 else if overF most (cnt1 B at' e) then rawA B at' e 1 else if cnt1 B at' e * 16 ≤ B.length - rawA B at' e 1 then rawA B at' e 1 + cnt1 B at' e * 16 else rawA B at' e 1 + (B.length - rawA B at' e 1) / 16 * 16
def rsumsP (B : List Int) (at' : Nat) (e most : Int) : List Int := if rsumsE B at' e most = 0 then (B.drop (rawA B at' e 1)).take (cnt1 B at' e * 16) else []
def RSumsPost (M R : Nat) (B : List Int) (at' : Nat) (e most : Int) (w : World) (r : Ending) (w' : World) : Prop :=
  ∃ v n, r = .returned v ∧ (rsumsP B at' e most).length = n * 16 ∧ n ≤ 255 ∧ w'.ownsRow w.heap.size 42 16 v n (bv (rsumsP B at' e most)) ∧ RefStep M R B (rsumsA B at' e most) (rsumsE B at' e most) w w'
theorem RSumsPost.no {M R : Nat} {B : List Int} {at' : Nat} {e most : Int} {w w' : World} {a : Nat} {e' : Int} (h1 : rsumsA B at' e most = a) (h2 : rsumsE B at' e most = e') (h3 : e' ≠ 0) (h : RefStep M R B a e' w w') :
    RSumsPost M R B at' e most w (.returned (.slice none 0 0)) w' := by
  refine ⟨_, 0, rfl, ?_, by omega, ?_, by rw [h1, h2]; exact h⟩
  · unfold rsumsP; rw [h2, if_neg h3]; rfl
  · unfold rsumsP; rw [h2, if_neg h3]; exact World.ownsRow_nil _ _ _ _

/-- A store into the error. -/
theorem RefIs.fail {w : World} {M R at' : Nat} {B : List Int} {e : Int} (h : RefIs w M R B at' e) (f : Int) : RefStep M R B at' f w (w.setCell ⟨R, 2, none⟩ (.int .i64 f)) := by
  obtain ⟨h1, ⟨v, hv, hB⟩, h3⟩ := h
  have hT : Turn R (refObj v at' f) w (w.setCell ⟨R, 2, none⟩ (.int .i64 f)) := ((Turn.same hB).set 2 _).as rfl
  exact ⟨⟨h1, ⟨v, hv.turn hT h1, hT.blk⟩, h3⟩, _, hT⟩

theorem cnt1_is {B : List Int} (hb : Bytes B) (at' : Nat) (e : Int) : numOf (rawP B at' e 1) = (cnt1 B at' e : Nat) ∧ cnt1 B at' e ≤ 255 := by
  have h := numOf_one (l := rawP B at' e 1) (rawP_len B at' e 1) (rawP_bytes hb at' e 1)
  unfold cnt1
  omega

theorem row_new (w : World) (l : List Int) (t : TypeId) : ∀ j u, (bv l)[j]? = some u → (w.alloc (.cells (bv l).toArray t)).cell? ((⟨w.heap.size, 0, none⟩ : Addr).add j) = some u := by
  intro j u hu
  have e : (⟨w.heap.size, 0, none⟩ : Addr).add j = ⟨w.heap.size, j, none⟩ := by unfold Addr.add; split <;> simp_all
  rw [e, (Blk.new w (.cells (bv l).toArray t)).cell j, List.getElem?_toArray]
  exact hu
end Go.Proofs.YtgabjmmmiogfjaaDoor

namespace Go.Proofs.YtgabjmmmiogfjaaDoor
open Go.RowKit

def cnt2 (B : List Int) (at' : Nat) (e : Int) : Nat := (numOf (rawP B at' e 2)).toNat
def rblobF (B : List Int) (at' : Nat) (e most : Int) : Int := if rawE B at' e 2 = 0 ∧ (overF most (cnt2 B at' e) = true ∨ 4096 < cnt2 B at' e) then 8 else rawE B at' e 2
def rblobP (B : List Int) (at' : Nat) (e most : Int) : List Int := rawP B (rawA B at' e 2) (rblobF B at' e most) (cnt2 B at' e)
def rblobA (B : List Int) (at' : Nat) (e most : Int) : Nat := rawA B (rawA B at' e 2) (rblobF B at' e most) (cnt2 B at' e)
def rblobE (B : List Int) (at' : Nat) (e most : Int) : Int := rawE B (rawA B at' e 2) (rblobF B at' e most) (cnt2 B at' e)
theorem cnt2_is {B : List Int} (hb : Bytes B) (at' : Nat) (e : Int) : numOf (rawP B at' e 2) = (cnt2 B at' e : Nat) ∧ cnt2 B at' e ≤ 65535 := by
  have h := numOf_two (l := rawP B at' e 2) (rawP_len B at' e 2) (rawP_bytes hb at' e 2)
  unfold cnt2
  omega

def RBlobPost (M R : Nat) (B : List Int) (at' : Nat) (e most : Int) (w : World) (r : Ending) (w' : World) : Prop :=
  ∃ v, r = .returned v ∧ (Bytes (rblobP B at' e most) ∧ w'.ownsRow w.heap.size 5 1 v (rblobP B at' e most).length (bv (rblobP B at' e most))) ∧ RefStep M R B (rblobA B at' e most) (rblobE B at' e most) w w'

set_option maxHeartbeats 3200000 in
theorem rblob_any (M R : Nat) (B : List Int) (at' : Nat) (e most : Int) (w : World) (h : RefIs w M R B at' e) (hm0 : -9223372036854775808 ≤ most) (hm1 : most ≤ 9223372036854775807) :
    Calls Tryd.prog 43 #[.pointer (some ⟨R, 0, none⟩), .int .i64 most] w (RBlobPost M R B at' e most w) := by
  obtain ⟨hc1, hc2⟩ := cnt2_is h.bytes at' e
  have HH := Lib.hid h
  have HBY := Lib.hid h.bytes
  have HN := Lib.hid (num_any M R B at' e 2 _ h (by omega))
  have HPO : Hid (∀ w1 w2 v, RefStep M R B (rawA B at' e 2) (rblobF B at' e most) w w1 → w2.ownsRow w1.heap.size 5 1 v (rawP B (rawA B at' e 2) (rblobF B at' e most) (cnt2 B at' e)).length (bv (rawP B (rawA B at' e 2) (rblobF B at' e most) (cnt2 B at' e))) →
      RefStep M R B (rawA B (rawA B at' e 2) (rblobF B at' e most) (cnt2 B at' e)) (rawE B (rawA B at' e 2) (rblobF B at' e most) (cnt2 B at' e)) w1 w2 → RBlobPost M R B at' e most w (.returned v) w2) := by
    intro w1 w2 v h1 h2 h3
    exact ⟨v, rfl, ⟨rawP_bytes HBY.out _ _ _, ownsRow_base h2 h1.size⟩, h1.trans h3⟩
  have HF : Hid (rblobF B at' e most = if rawE B at' e 2 = 0 ∧ (overF most (cnt2 B at' e) = true ∨ 4096 < cnt2 B at' e) then 8 else rawE B at' e 2) := rfl
  have HO : Hid (overF most (cnt2 B at' e) = decide ((if most < 0 then 0 else most) < ((cnt2 B at' e : Nat) : Int))) := rfl
  rw [hc1] at HN
  generalize overF most (cnt2 B at' e) = ov at HO HF
  generalize rblobF B at' e most = f at HPO HF
  generalize cnt2 B at' e = n at hc2 HPO HF HO HN
  generalize rawA B at' e 2 = a2 at HPO HN
  generalize rawE B at' e 2 = e2 at HPO HN HF
  clear hc1 h
  have hcase : (e2 ≠ 0 ∧ f = e2) ∨ (e2 = 0 ∧ (if most < 0 then 0 else most) < (n : Int) ∧ f = 8) ∨ (e2 = 0 ∧ ¬ (if most < 0 then 0 else most) < (n : Int) ∧ 4096 < n ∧ f = 8) ∨ (e2 = 0 ∧ ¬ (if most < 0 then 0 else most) < (n : Int) ∧ n ≤ 4096 ∧ f = 0) := by
    have hf := HF.out
    have ho := HO.out
    by_cases h0 : e2 = 0
    · by_cases h1 : (if most < 0 then 0 else most) < (n : Int)
      · rw [decide_eq_true h1] at ho
        rw [if_pos ⟨h0, .inl ho⟩] at hf
        exact .inr (.inl ⟨h0, h1, hf⟩)
      · rw [decide_eq_false h1] at ho
        by_cases h2 : 4096 < n
        · rw [if_pos ⟨h0, .inr h2⟩] at hf
          exact .inr (.inr (.inl ⟨h0, h1, h2, hf⟩))
        · rw [if_neg (by simp [ho, h2])] at hf
          exact .inr (.inr (.inr ⟨h0, h1, by omega, by omega⟩))
    · rw [if_neg (by simp [h0])] at hf
      exact .inl ⟨h0, hf⟩
  clear HF HO
  rcases hcase with ⟨h0, rfl⟩ | ⟨rfl, h1, rfl⟩ | ⟨rfl, h1, h2, rfl⟩ | ⟨rfl, h1, h2, rfl⟩
  · have t0 : (f == 0) = false := by simp [h0]
    clear h0
    by_cases hmn : most < 0
    all_goals
      go_enter Tryd.func43, Tryd.ntmps43
      go_wp2_with fail
      refine HN.out.mono ?_
      rintro r w1 ⟨rfl, h1⟩
      have H1 := Lib.hid h1
      obtain ⟨⟨_, ⟨v, hv, hB⟩, _⟩, _⟩ := h1
      obtain ⟨c0, c1, c2, -⟩ := hB.three
      clear hB hv
      go_wp2_with fail
      refine (raw_any M R B a2 f n _ H1.out.is (by omega)).mono ?_
      rintro r w2 ⟨v, rfl, hv2, h2⟩
      have HV2 := Lib.hid hv2
      have H2 := Lib.hid h2
      clear hv2 h2
      go_wp2_with fail
      go_ret
      exact HPO.out _ _ _ H1.out HV2.out H2.out
  · by_cases hmn : most < 0
    all_goals
      first | (rw [if_pos hmn] at h1) | (rw [if_neg hmn] at h1)
      go_enter Tryd.func43, Tryd.ntmps43
      go_wp2_with fail
      refine HN.out.mono ?_
      rintro r w1 ⟨rfl, hh1⟩
      have H1 := Lib.hid hh1
      obtain ⟨⟨_, ⟨v, hv, hB⟩, _⟩, _⟩ := hh1
      obtain ⟨c0, c1, c2, f0, f1, f2⟩ := hB.three
      have lR := hB.lt
      have H3 := Lib.hid (H1.out.trans (H1.out.is.fail 8))
      clear hB hv
      go_wp2_with fail
      refine (raw_any M R B a2 8 _ _ H3.out.is (by omega)).mono ?_
      rintro r w2 ⟨v, rfl, hv2, h2⟩
      have HV2 := Lib.hid hv2
      have H2 := Lib.hid h2
      clear hv2 h2
      go_wp2_with fail
      go_ret
      exact HPO.out _ _ _ H3.out HV2.out H2.out
  · by_cases hmn : most < 0
    · rw [if_pos hmn] at h1
      omega
    · rw [if_neg hmn] at h1
      have h1' : (n : Int) ≤ most := by omega
      clear h1
      go_enter Tryd.func43, Tryd.ntmps43
      go_wp2_with fail
      refine HN.out.mono ?_
      rintro r w1 ⟨rfl, hh1⟩
      have H1 := Lib.hid hh1
      obtain ⟨⟨_, ⟨v, hv, hB⟩, _⟩, _⟩ := hh1
      obtain ⟨c0, c1, c2, f0, f1, f2⟩ := hB.three
      have lR := hB.lt
      have H3 := Lib.hid (H1.out.trans (H1.out.is.fail 8))
      clear hB hv
      go_wp2_with fail
      refine (raw_any M R B a2 8 _ _ H3.out.is (by omega)).mono ?_
      rintro r w2 ⟨v, rfl, hv2, h2⟩
      have HV2 := Lib.hid hv2
      have H2 := Lib.hid h2
      clear hv2 h2
      go_wp2_with fail
      go_ret
      exact HPO.out _ _ _ H3.out HV2.out H2.out
  · by_cases hmn : most < 0
    · rw [if_pos hmn] at h1
      obtain rfl : n = 0 := by omega
      clear h1 h2
      go_enter Tryd.func43, Tryd.ntmps43
      go_wp2_with fail
      refine HN.out.mono ?_
      rintro r w1 ⟨rfl, hh1⟩
      have H1 := Lib.hid hh1
      obtain ⟨⟨_, ⟨v, hv, hB⟩, _⟩, _⟩ := hh1
      obtain ⟨c0, c1, c2, -⟩ := hB.three
      clear hB hv
      go_wp2_with fail
      refine (raw_any M R B a2 0 _ _ H1.out.is (by omega)).mono ?_
      rintro r w2 ⟨v, rfl, hv2, h2⟩
      have HV2 := Lib.hid hv2
      have H2 := Lib.hid h2
      clear hv2 h2
      go_wp2_with fail
      go_ret
      exact HPO.out _ _ _ H1.out HV2.out H2.out
    · rw [if_neg hmn] at h1
      have h1' : (n : Int) ≤ most := by omega
      clear h1
      go_enter Tryd.func43, Tryd.ntmps43
      go_wp2_with fail
      refine HN.out.mono ?_
      rintro r w1 ⟨rfl, hh1⟩
      have H1 := Lib.hid hh1
      obtain ⟨⟨_, ⟨v, hv, hB⟩, _⟩, _⟩ := hh1
      obtain ⟨c0, c1, c2, -⟩ := hB.three
      clear hB hv
      go_wp2_with fail
      refine (raw_any M R B a2 0 _ _ H1.out.is (by omega)).mono ?_
      rintro r w2 ⟨v, rfl, hv2, h2⟩
      have HV2 := Lib.hid hv2
      have H2 := Lib.hid h2
      clear hv2 h2
      go_wp2_with fail
      go_ret
      exact HPO.out _ _ _ H1.out HV2.out H2.out
end Go.Proofs.YtgabjmmmiogfjaaDoor

namespace Go.Proofs.YtgabjmmmiogfjaaDoor
open Go.RowKit

structure Rel (l : List Int) (e : Int) (B : List Int) (at' : Nat) : Prop where
  ok : e = 0 → l = B.drop at'
  bad : e ≠ 0 → l = []

theorem Rel.next {l B : List Int} {e : Int} {at' : Nat} (h : Rel l e B at') (k : Nat) : nextP l e k = rawP B at' e k ∧ nextE l e k = rawE B at' e k ∧ Rel (nextL l e k) (rawE B at' e k) B (rawA B at' e k) := by
  by_cases he : e = 0
  · have hl := h.ok he
    have hlen : l.length = B.length - at' := by rw [hl, List.length_drop]
    by_cases hk : k ≤ l.length
    · have hk2 : k ≤ B.length - at' := by omega
      refine ⟨?_, ?_, ?_⟩
      · unfold nextP rawP; rw [if_pos ⟨he, hk⟩, if_pos ⟨he, hk2⟩, hl]
      · unfold nextE rawE; rw [if_neg (by omega), if_neg (by omega)]
      · have h1 : rawE B at' e k = 0 := by unfold rawE; rw [if_neg (by omega), he]
        rw [h1]
        refine ⟨fun _ => ?_, fun h => absurd rfl h⟩
        unfold nextL rawA
        rw [if_pos ⟨he, hk⟩, if_pos ⟨he, hk2⟩, hl, List.drop_drop]
    · have hk2 : ¬ k ≤ B.length - at' := by omega
      refine ⟨?_, ?_, ?_⟩
      · unfold nextP rawP; rw [if_neg (by omega), if_neg (by omega)]
      · unfold nextE rawE; rw [if_pos ⟨he, by omega⟩, if_pos ⟨he, by omega⟩]
      · have h1 : rawE B at' e k = 9 := by unfold rawE; rw [if_pos ⟨he, by omega⟩]
        rw [h1]
        refine ⟨fun h => absurd h (by decide), fun _ => ?_⟩
        unfold nextL
        rw [if_neg (by omega)]
  · refine ⟨?_, ?_, ?_⟩
    · unfold nextP rawP; rw [if_neg (by omega), if_neg (by omega)]
    · unfold nextE rawE; rw [if_neg (by omega), if_neg (by omega)]
    · have h1 : rawE B at' e k = e := by unfold rawE; rw [if_neg (by omega)]
      rw [h1]
      refine ⟨fun h => absurd h he, fun _ => ?_⟩
      unfold nextL
      rw [if_neg (by omega)]
theorem Rel.fail {l B : List Int} {e : Int} {at' : Nat} (h : Rel l e B at') (f : Int) : Rel (failL l e f) (failE e f) B at' := by
  unfold failL failE
  by_cases hc : e = 0 ∧ f ≠ 0
  · rw [if_pos hc, if_pos hc]
    exact ⟨fun h => absurd h hc.2, fun _ => rfl⟩
  · rw [if_neg hc, if_neg hc]
    exact h
theorem Rel.left {l B : List Int} {e : Int} {at' : Nat} (h : Rel l e B at') : l.length = rleft B at' e := by
  unfold rleft
  by_cases he : e = 0
  · rw [if_pos he, h.ok he, List.length_drop]
  · rw [if_neg he, h.bad he]; rfl

/-- Many, against the document's number. -/
theorem Rel.many {l B : List Int} {e : Int} {at' : Nat} (h : Rel l e B at') (k : Nat) (hk : k ≤ 2) (hb : Bytes l) (most : Int) :
    manyB l e k most = decide ((if most < 0 then 0 else most) < numOf (rawP B at' e k)) := by
  unfold manyB
  rw [(h.next k).1]
/-- Behind an error nothing is told. -/
theorem rawP_bad {B : List Int} {at' : Nat} {e : Int} {k : Nat} (h : rawE B at' e k ≠ 0) : rawP B at' e k = [] := by
  unfold rawP
  unfold rawE at h
  split at h <;> rw [if_neg (by omega)]
theorem numOf_pos_ok {B : List Int} {at' : Nat} {e : Int} {k : Nat} {most : Int} (h : decide ((if most < 0 then 0 else most) < numOf (rawP B at' e k)) = true) : rawE B at' e k = 0 := by
  false_or_by_contra
  rename_i hne
  rw [rawP_bad hne, numOf_nil] at h
  have := of_decide_eq_true h
  split at this <;> omega

theorem rawA_fit {B : List Int} {at' k : Nat} (h : k ≤ B.length - at') : rawA B at' 0 k = at' + k := if_pos ⟨rfl, h⟩
theorem rawE_fit {B : List Int} {at' k : Nat} (h : k ≤ B.length - at') : rawE B at' 0 k = 0 := if_neg (by omega)
theorem rawE_short {B : List Int} {at' k : Nat} (h : B.length - at' < k) : rawE B at' 0 k = 9 := if_pos ⟨rfl, h⟩
theorem rawE_err {B : List Int} {at' k : Nat} {e : Int} (h : e ≠ 0) : rawE B at' e k = e := if_neg (by omega)
theorem rawP_fit {B : List Int} {at' k : Nat} (h : k ≤ B.length - at') : rawP B at' 0 k = (B.drop at').take k := if_pos ⟨rfl, h⟩
theorem rawP_short {B : List Int} {at' k : Nat} (h : B.length - at' < k) : rawP B at' 0 k = [] := if_neg (by omega)
theorem rawP_err {B : List Int} {at' k : Nat} {e : Int} (h : e ≠ 0) : rawP B at' e k = [] := if_neg (by omega)

theorem Rel.blob {l B : List Int} {e : Int} {at' : Nat} (h : Rel l e B at') (hb : Bytes l) (hB : Bytes B) (most : Int) :
    blobP l e most = rblobP B at' e most ∧ blobE l e most = rblobE B at' e most ∧ Rel (blobL l e most) (rblobE B at' e most) B (rblobA B at' e most) := by
  obtain ⟨hp, he2, hr⟩ := h.next 2
  obtain ⟨hc1, hc2⟩ := cnt2_is hB at' e
  obtain ⟨m, hmm⟩ : ∃ m : Int, (if 4096 < most then 4096 else most) = m := ⟨_, rfl⟩
  have hm := h.many 2 (by omega) hb m
  have hov : manyB l e 2 m = decide (overF most (cnt2 B at' e) = true ∨ 4096 < cnt2 B at' e) := by
    rw [hm, hc1]
    unfold overF
    rw [← hmm, Bool.eq_iff_iff, decide_eq_true_eq, decide_eq_true_eq, decide_eq_true_eq]
    (repeat' split) <;> omega
  have hn0 : rawE B at' e 2 ≠ 0 → cnt2 B at' e = 0 := fun hz => by unfold cnt2; rw [rawP_bad hz]; rfl
  have hov0 : manyB l e 2 m = true → rawE B at' e 2 = 0 := fun ho => numOf_pos_ok (by rw [← hm]; exact ho)
  have hR : manyR l e 2 m = (if manyB l e 2 m then (0 : Int) else ((cnt2 B at' e : Nat) : Int)) := by unfold manyR; rw [hp, hc1]
  have hL : manyL l e 2 m = if manyB l e 2 m then failL (nextL l e 2) (rawE B at' e 2) 8 else nextL l e 2 := by unfold manyL; rw [he2]
  have hE : manyE l e 2 m = if manyB l e 2 m then failE (rawE B at' e 2) 8 else rawE B at' e 2 := by unfold manyE; rw [he2]
  have hF : rblobF B at' e most = if rawE B at' e 2 = 0 ∧ (overF most (cnt2 B at' e) = true ∨ 4096 < cnt2 B at' e) then 8 else rawE B at' e 2 := rfl
  unfold blobP blobE blobL blobN rblobP rblobE rblobA
  rw [hmm]
  generalize manyB l e 2 m = mB at *
  generalize rblobF B at' e most = f at *
  generalize rawE B at' e 2 = e2 at *
  generalize rawA B at' e 2 = a2 at *
  generalize cnt2 B at' e = n at *
  generalize manyR l e 2 m = mR at *
  generalize manyL l e 2 m = mL at *
  generalize manyE l e 2 m = mE at *
  generalize nextL l e 2 = l2 at *
  cases mB with
  | true =>
    have hz := hov0 rfl
    subst hz
    have hc := of_decide_eq_true hov.symm
    rw [if_pos ⟨rfl, hc⟩] at hF
    rw [if_pos rfl] at hR hL hE
    rw [failL_yes rfl (by decide)] at hL
    rw [failE_yes rfl (by decide)] at hE
    rw [hR, hL, hE, hF]
    rw [rawP_err (by decide), rawE_err (by decide)]
    refine ⟨?_, ?_, fun h => absurd h (by decide), fun _ => ?_⟩
    · unfold nextP; rw [if_neg (by simp)]
    · unfold nextE; rw [if_neg (by simp)]
    · unfold nextL; rw [if_neg (by simp)]
  | false =>
    have hc := of_decide_eq_false hov.symm
    rw [if_neg (by rintro ⟨_, h⟩; exact hc h)] at hF
    rw [if_neg (by decide)] at hR hL hE
    rw [hR, hL, hE, hF, Int.toNat_natCast]
    exact ⟨(hr.next n).1, (hr.next n).2.1, (hr.next n).2.2⟩
end Go.Proofs.YtgabjmmmiogfjaaDoor

namespace Go.Proofs.YtgabjmmmiogfjaaDoor
open Go.RowKit

abbrev z16 : List Int := [0, 0, 0, 0, 0, 0, 0, 0, 0, 0, 0, 0, 0, 0, 0, 0]
abbrev z16o : Obj := .cells #[.int .u8 0, .int .u8 0, .int .u8 0, .int .u8 0, .int .u8 0, .int .u8 0, .int .u8 0, .int .u8 0, .int .u8 0, .int .u8 0, .int .u8 0, .int .u8 0, .int .u8 0, .int .u8 0, .int .u8 0, .int .u8 0] 83
/-- A short sum, as a value. -/
def sumV (l : List Int) : Value := .agg (bv l).toArray
/-- What Sum answers. -/
def sumP (l : List Int) (e : Int) : List Int := if e = 0 ∧ 16 ≤ l.length then l.take 16 else z16
theorem sumP_is (l : List Int) (e : Int) : splice (bv z16) 0 (bv (nextP l e 16)) = bv (sumP l e) := by
  unfold sumP nextP
  split
  · rename_i h
    have h2 : (l.take 16).length = 16 := by rw [List.length_take]; omega
    unfold splice
    rw [List.length_map, h2]
    simp
  · rfl
theorem sumP_len (l : List Int) (e : Int) : (sumP l e).length = 16 := by
  unfold sumP
  split
  · rw [List.length_take]; omega
  · rfl
theorem bv_all (l : List Int) : (bv l).toArray.all (·.oneCell') = true := Array.all_eq_true_iff_forall_mem.2 fun v hv => bv_one l v (by simpa using hv)

theorem info51 : (Tryd.prog.info? 83).map (·.size) = some 16 := by kernel_rfl
theorem cells51 {l : List Int} (h : l.length = 16) : (Tryd.prog.info? 83).map (·.size) = some (bv l).toArray.size := by
  have e : (bv l).toArray.size = 16 := by simp [h]
  rw [e]
  exact info51
theorem size51 {l : List Int} (h : l.length = 16) : (#[Value.int .u8 0, .int .u8 0, .int .u8 0, .int .u8 0, .int .u8 0, .int .u8 0, .int .u8 0, .int .u8 0, .int .u8 0, .int .u8 0, .int .u8 0, .int .u8 0, .int .u8 0, .int .u8 0, .int .u8 0, .int .u8 0] : Array Value).size = (bv l).toArray.size := by
  simp [h]
theorem min16 {l : List Int} {e : Int} {n : Nat} (h : n = (nextP l e 16).length) : (bv (nextP l e 16)).length = Nat.min n 16 := by
  have := nextP_len l e 16
  rw [List.length_map, h]
  exact (Nat.min_eq_left this).symm
theorem pos16 {w : World} {M A : Nat} {a : Option Addr} {n cap : Nat} {l : List Int} (h : HoldsB w M (.slice a n cap) l) (h0 : 0 < (bv l).length) :
    (some (⟨A, 0, none⟩ : Addr)) = some ⟨A, 0, none⟩ ∧ ∃ ad, a = some ad ∧ ∀ j u, (bv l)[j]? = some u → w.cell? (ad.add j) = some u := ⟨rfl, h.source h0⟩
theorem fit16 (l : List Int) (e : Int) : 0 + (bv (nextP l e 16)).length ≤ (bv z16).length := by
  have := nextP_len l e 16
  simp
  omega

set_option maxRecDepth 100000 in
set_option maxHeartbeats 1600000 in
theorem isum_any (M I : Nat) (l : List Int) (e : Int) (w : World) (h : InIs w M I l e) :
    Calls Tryd.prog 82 #[.pointer (some ⟨I, 0, none⟩)] w fun r w' => r = .returned (sumV (sumP l e)) ∧ InStep M I (nextL l e 16) (nextE l e 16) w w' := by
  have hI := h.lt
  go_enter Tryd.func82, Tryd.ntmps82
  go_wp2_with fail
  have HI := Lib.hid ((h.keep (more (Below.refl _ _) z16o)).keep (more (Below.refl _ _) z16o))
  have hbA := (Blk.new w z16o).old z16o
  have hbB : Blk ((w.alloc z16o).alloc z16o) (w.heap.size + 1) z16o := Blk.newAt _ (by simp)
  have hE : Below w.heap.size w ((w.alloc z16o).alloc z16o) := more (more (Below.refl _ _) _) _
  have hS : w.heap.size + 2 ≤ ((w.alloc z16o).alloc z16o).heap.size := by simp
  have HBA := Lib.hid hbA
  have HBB := Lib.hid hbB
  have HE := Lib.hid hE
  clear hbA hbB hE h
  revert HI HBA HBB HE hS
  generalize (w.alloc z16o).alloc z16o = W0
  intro HI hS HBA HBB HE
  generalize hA : w.heap.size = A at *
  have HA := Lib.hid hA
  clear hA
  have hIA : A + 1 ≠ I := by omega
  go_region_law (first
    | (refine step_copy_splice rfl (.tmp 4) (.tmp 6) 24 24 rfl 5 Tryd.underlying24 (by kernel_rfl) _ _ _ _ _ _ (by simp [Act.eval, Act.put]; rfl) (by simp [Act.eval, Act.put]; rfl) (A + 1) 0 (bv z16) 83 HG.out (bv (nextP l e 16)) HCN.out HPOS.out HFIT.out (bv_one _) (A + 1) w2 (Below.refl _ _) (Nat.le_refl _) ?_; intro w4 hg4 hb4)
    | (go_simp; go_at_call 105; refine (next_any M I l e 16 _ HI.out.drew (by omega)).mono ?_; rintro r w2 ⟨v, rfl, hv, h2⟩; obtain ⟨a, n, cap, rfl, hn⟩ := hv.slice; have H2 := Lib.hid h2.undrew; have HG := Lib.hid (H2.out.keep HBB.out hIA); have HCN := Lib.hid (min16 hn); have HPOS := Lib.hid (pos16 (A := A + 1) hv); have HFIT := Lib.hid (fit16 l e); clear hv h2 hn))
  all_goals
    have H4 : Hid (InStep M I (nextL l e 16) (nextE l e 16) w w4) := (InStep.ahead (by rw [HA.out]; exact HE.out) H2.out).upto hb4 (by rw [HA.out]; omega) (by rw [HA.out]; omega)
    have HA4 := Lib.hid ((H2.out.keep HBA.out (show A ≠ I by omega)).upto hb4 (Nat.lt_succ_self A))
    have HG4 : Hid (w4.heap[A + 1]? = some (.cells (bv (sumP l e)).toArray 83 (0, 0))) := by
      have := hg4.out
      rw [sumP_is] at this
      exact this
    clear hg4 hb4
    have hc16 := Lib.hid (cells51 (sumP_len l e))
    have H5 := Lib.hid (H4.out.upto (Below.row (Below.refl A w4) (Nat.le_refl A) (bv (sumP l e)).toArray) (by rw [HA.out]; exact Nat.le_refl _) (by rw [HA.out]; omega))
    have HA5 := Lib.hid (HA4.out.setRow (bv (sumP l e)).toArray)
    go_wp2_with (first
      | (refine wpList_load_row rfl 83 (.tmp 3) rfl (A + 1) rfl 83 (bv (sumP l e)).toArray (0, 0) _ HG4.out Tryd.underlying83 rfl hc16.out ?_)
      | (refine wpList_store_row rfl 83 (.tmp 2) (.tmp 8) rfl A (bv (sumP l e)).toArray rfl rfl 83 _ HA4.out hc16.out (size51 (sumP_len l e)) (bv_all _) ?_))
    refine bodyPost_ret (v := sumV (sumP l e)) (results_cell_row Tryd.results82 _ _ A 83 _ (0, 0) _ rfl HA5.out Tryd.underlying83 rfl hc16.out) rfl ⟨rfl, H5.out⟩
end Go.Proofs.YtgabjmmmiogfjaaDoor

namespace Go.Proofs.YtgabjmmmiogfjaaDoor
open Go.RowKit

abbrev z16p : Obj := .cells #[.int .u8 0, .int .u8 0, .int .u8 0, .int .u8 0, .int .u8 0, .int .u8 0, .int .u8 0, .int .u8 0, .int .u8 0, .int .u8 0, .int .u8 0, .int .u8 0, .int .u8 0, .int .u8 0, .int .u8 0, .int .u8 0] 40
def rsumP (B : List Int) (at' : Nat) (e : Int) : List Int := if e = 0 ∧ 16 ≤ B.length - at' then (B.drop at').take 16 else z16
theorem rsumP_len (B : List Int) (at' : Nat) (e : Int) : (rsumP B at' e).length = 16 := by
  unfold rsumP
  split
  · rw [List.length_take, List.length_drop]; omega
  · rfl
theorem info42 : (Tryd.prog.info? 40).map (·.size) = some 16 := by kernel_rfl
theorem cells42 {l : List Int} (h : l.length = 16) : (Tryd.prog.info? 40).map (·.size) = some (bv l).toArray.size := by
  have e : (bv l).toArray.size = 16 := by simp [h]
  rw [e]
  exact info42
/-- The array behind i rounds. -/
def fill16 (p : List Int) (i : Nat) : List Int := p.take i ++ List.replicate (16 - i) 0
theorem fill16_len {p : List Int} {i : Nat} (h : i ≤ p.length) (h2 : i ≤ 16) : (fill16 p i).length = 16 := by
  unfold fill16
  rw [List.length_append, List.length_take, List.length_replicate]
  omega
theorem fill16_step {p : List Int} {i : Nat} (h : i < p.length) (h2 : i < 16) : (bv (fill16 p i)).toArray.setIfInBounds i (.int .u8 (p.getD i 0)) = (bv (fill16 p (i + 1))).toArray := by
  rw [List.setIfInBounds_toArray]
  congr 1
  unfold fill16 bv
  rw [List.map_append, List.map_append, List.set_append_right _ _ (by rw [List.length_map, List.length_take]; omega), List.length_map, List.length_take, Nat.min_eq_left (by omega), Nat.sub_self,
    show 16 - i = (16 - (i + 1)) + 1 by omega, List.replicate_succ, List.map_cons, List.set_cons_zero, List.take_succ_eq_append_getElem h, List.map_append, List.append_assoc, List.getD_eq_getElem?_getD, List.getElem?_eq_getElem h]
  rfl
theorem fill16_all {p : List Int} (h : p.length = 16) : fill16 p 16 = p := by
  unfold fill16
  rw [List.take_of_length_le (by omega)]
  simp

set_option maxRecDepth 100000 in
set_option maxHeartbeats 1600000 in
theorem risum_any (M R : Nat) (B : List Int) (at' : Nat) (e : Int) (w : World) (h : RefIs w M R B at' e) :
    Calls Tryd.prog 44 #[.pointer (some ⟨R, 0, none⟩)] w fun r w' => r = .returned (sumV (rsumP B at' e)) ∧ RefStep M R B (rawA B at' e 16) (rawE B at' e 16) w w' := by
  have hR := h.lt
  have hbytes := rawP_bytes h.bytes at' e 16
  go_enter Tryd.func44, Tryd.ntmps44
  go_wp2_with fail
  have HI := Lib.hid ((h.keep (more (Below.refl _ _) z16p)).keep (more (Below.refl _ _) z16p))
  have hbA := (Blk.new w z16p).old z16p
  have hbB : Blk ((w.alloc z16p).alloc z16p) (w.heap.size + 1) z16p := Blk.newAt _ (by simp)
  have hE : Below w.heap.size w ((w.alloc z16p).alloc z16p) := more (more (Below.refl _ _) _) _
  have HBA := Lib.hid hbA
  have HBB := Lib.hid hbB
  have HE := Lib.hid hE
  have HS := Lib.hid (show w.heap.size + 2 ≤ ((w.alloc z16p).alloc z16p).heap.size by simp)
  clear hbA hbB hE h
  generalize (w.alloc z16p).alloc z16p = W0 at HI HBA HBB HE HS ⊢
  generalize hA : w.heap.size = A at HBA HBB HE HS hR ⊢
  have HA := Lib.hid hA
  clear hA
  refine (raw_any M R B at' e 16 _ HI.out (by omega)).mono ?_
  rintro r w1 ⟨v, rfl, hp, h1⟩
  have HP1 : Hid (rsumP B at' e = fill16 (rawP B at' e 16) (rawP B at' e 16).length ∧ (rawP B at' e 16).length ≤ 16) := by
    unfold Hid rsumP rawP
    split
    · rename_i hc
      have hl : ((B.drop at').take 16).length = 16 := by rw [List.length_take, List.length_drop]; omega
      rw [hl, fill16_all hl]
      exact ⟨rfl, Nat.le_refl _⟩
    · exact ⟨rfl, by simp⟩
  obtain ⟨p, hpe⟩ : ∃ p, rawP B at' e 16 = p := ⟨_, rfl⟩
  rw [hpe] at hp hbytes HP1
  have hv := HoldsB.ofRow hbytes hp
  obtain ⟨a, n, cap, rfl, hn⟩ := hv.slice
  have hn16 : n ≤ 16 := by have := HP1.out.2; omega
  have HP : Hid (HoldsB w1 w1.heap.size (.slice a n cap) p) := hv
  have HN := Lib.hid hn
  have H1 := Lib.hid h1
  have HB1 := Lib.hid (H1.out.keep HBB.out (by omega))
  have HSZ := Lib.hid H1.out.size
  -- the bytes lie above the array
  have HP2 : Hid (∀ i, i < n → ∃ b off, a = some ⟨b, off, none⟩ ∧ W0.heap.size ≤ b ∧ w1.cell? ⟨b, off + i, none⟩ = some (.int .u8 (p.getD i 0))) := by
    intro i hi
    obtain ⟨b, off, rfl, -, hc⟩ := hv.cellAt (i := i) (by omega)
    exact ⟨b, off, rfl, (hp.lt b rfl).1, hc⟩
  clear hp hv hn h1 hpe hbytes
  go_wp2_with fail
  have hstart : Blk w1 (A + 1) (.cells (bv (fill16 p 0)).toArray 40) := HB1.out
  have HST := Lib.hid hstart
  clear hstart
  go_loopw [5] (fun c wr => ∃ i : Nat, i ≤ n ∧ c = .int .i64 i ∧ Blk wr (A + 1) (.cells (bv (fill16 p i)).toArray 40) ∧ (∀ j, j < w1.heap.size → j ≠ A + 1 → wr.heap[j]? = w1.heap[j]?) ∧ Below (A + 1) w1 wr) (fun c _ => n - (intOf c).toNat)
  case atStart => exact ⟨0, by omega, rfl, HST.out, fun _ _ _ => rfl, Below.refl _ _⟩
  case round =>
    obtain ⟨i, hi, rfl, hb, ho, hE⟩ := hrel
    have HBL := Lib.hid hb
    have HOT := Lib.hid ho
    have HEE := Lib.hid hE
    by_cases hlt : i < n
    · obtain ⟨b, off, rfl, hbb, hc⟩ := HP2.out i hlt
      have hbl := World.block_lt_of_cell? w1 _ hc
      have hc' : wr.cell? ⟨b, off + i, none⟩ = some (.int .u8 (p.getD i 0)) := (World.cell?_of_block (w := w1) (a := ⟨b, off + i, none⟩) (ho b hbl (by have := HS.out; omega))).trans hc
      have hcell := hb.cell i
      have hfl : i < (fill16 p i).length := by rw [fill16_len (by have := HN.out; omega) (by omega)]; omega
      have hcell' : wr.cell? ⟨A + 1, i, none⟩ = some (.int .u8 ((fill16 p i).getD i 0)) := by
        rw [hcell, List.getElem?_toArray, List.getElem?_map, List.getD_eq_getElem?_getD, List.getElem?_eq_getElem hfl]
        rfl
      have hfr := hb.frozen i
      have hlA := hb.lt
      have HSTEP := Lib.hid (fill16_step (p := p) (i := i) (by have := HN.out; omega) (by omega))
      generalize (fill16 p i).getD i 0 = y at hcell'
      generalize p.getD i 0 = x at hc' HSTEP
      have hi16 : i < 16 := by omega
      clear hb ho hE hc hcell hfl
      go_wp2_with fail
      refine ⟨⟨i + 1, by omega, by go_num, (HBL.out.set i _).trans (by rw [HSTEP.out]), fun j hj hne => by rw [Below.heap_setCell _ _ _ _ hne]; exact HOT.out j hj hne, HEE.out.setCell (Nat.le_refl _) _⟩, by simp [intOf]; omega⟩
    · obtain rfl : i = n := by omega
      have hfull : fill16 p i = rsumP B at' e := by rw [HP1.out.1, ← HN.out]
      have HG4 : Hid (wr.heap[A + 1]? = some (.cells (bv (rsumP B at' e)).toArray 40 (0, 0))) := by
        have := HBL.out
        rw [hfull] at this
        exact this
      have HA4 := Lib.hid ((H1.out.keep HBA.out (show A ≠ R by omega)).upto HEE.out (Nat.lt_succ_self A))
      have H4 : Hid (RefStep M R B (rawA B at' e 16) (rawE B at' e 16) w wr) := (RefStep.ahead (by rw [HA.out]; exact HE.out) H1.out).upto HEE.out (by rw [HA.out]; omega) (by rw [HA.out]; omega)
      have hc16 := Lib.hid (cells42 (rsumP_len B at' e))
      have H5 := Lib.hid (H4.out.upto (Below.row (Below.refl A wr) (Nat.le_refl A) (bv (rsumP B at' e)).toArray) (by rw [HA.out]; exact Nat.le_refl _) (by rw [HA.out]; omega))
      have HA5 := Lib.hid (HA4.out.setRow (bv (rsumP B at' e)).toArray)
      clear hfull hb ho hE
      go_wp2_with (first
        | (refine wpList_load_row rfl 40 (.tmp 3) rfl (A + 1) rfl 40 (bv (rsumP B at' e)).toArray (0, 0) _ HG4.out Tryd.underlying40 rfl hc16.out ?_)
        | (refine wpList_store_row rfl 40 (.tmp 2) (.tmp 20) rfl A (bv (rsumP B at' e)).toArray rfl rfl 40 _ HA4.out hc16.out (size51 (rsumP_len B at' e)) (bv_all _) ?_))
      refine bodyPost_ret (v := sumV (rsumP B at' e)) (results_cell_row Tryd.results44 _ _ A 40 _ (0, 0) _ rfl HA5.out Tryd.underlying40 rfl hc16.out) rfl ⟨rfl, H5.out⟩
end Go.Proofs.YtgabjmmmiogfjaaDoor

namespace Go.Proofs.YtgabjmmmiogfjaaDoor
open Go.RowKit

theorem u64o_any (O : Nat) (v : Value) (l : List Int) (f : Bool) (n : Int) (w : World) (h : OutIs w O v l f) (hn0 : 0 ≤ n) (hn1 : n < 18446744073709551616) (hlen : l.length ≤ 1000000000000) :
    Calls Tryd.prog 72 #[.pointer (some ⟨O, 0, none⟩), .int .u64 n] w (NumPost O v l f n 8 w) := by
  go_enter Tryd.func72, Tryd.ntmps72
  go_wp2_with fail
  refine (number_8 O v l f n _ h hn0 hn1 hlen).mono ?_
  rintro r w1 ⟨rfl, h1⟩
  go_wp2_with fail
  go_end0
  exact ⟨rfl, h1⟩
theorem u64_any (M I : Nat) (l : List Int) (e : Int) (w : World) (h : InIs w M I l e) :
    Calls Tryd.prog 80 #[.pointer (some ⟨I, 0, none⟩)] w fun r w' => r = .returned (.int .u64 (numOf (nextP l e 8))) ∧ InStep M I (nextL l e 8) (nextE l e 8) w w' := by
  go_enter Tryd.func80, Tryd.ntmps80
  go_wp2_with fail
  refine (number_any M I l e 8 _ h (by omega)).mono ?_
  rintro r w1 ⟨rfl, h1⟩
  go_wp2_with fail
  go_ret
  exact ⟨rfl, h1⟩
end Go.Proofs.YtgabjmmmiogfjaaDoor

namespace Go.Proofs.YtgabjmmmiogfjaaDoor
open Go.RowKit

theorem HoldsB.four {w : World} {M : Nat} {v : Value} {l : List Int} (h : HoldsB w M v l) (hl : l.length = 4) :
    ∃ b off cap x0 x1 x2 x3, v = .slice (some ⟨b, off, none⟩) 4 cap ∧ b < w.heap.size ∧ l = [x0, x1, x2, x3] ∧ w.cell? ⟨b, off, none⟩ = some (.int .u8 x0) ∧ w.cell? ⟨b, off + 1, none⟩ = some (.int .u8 x1) ∧
      w.cell? ⟨b, off + 2, none⟩ = some (.int .u8 x2) ∧ w.cell? ⟨b, off + 3, none⟩ = some (.int .u8 x3) ∧ (0 ≤ x0 ∧ x0 ≤ 255) ∧ (0 ≤ x1 ∧ x1 ≤ 255) ∧ (0 ≤ x2 ∧ x2 ≤ 255) ∧ (0 ≤ x3 ∧ x3 ≤ 255) := by
  obtain ⟨b, off, cap, rfl, _, _, _, hb, hc⟩ := h.open (by omega)
  have hy := h.bytes
  match l, hl with
  | [x0, x1, x2, x3], _ =>
    exact ⟨b, off, cap, x0, x1, x2, x3, rfl, hb, rfl, hc 0 (by simp), hc 1 (by simp), hc 2 (by simp), hc 3 (by simp), hy x0 (by simp), hy x1 (by simp), hy x2 (by simp), hy x3 (by simp)⟩
theorem word_of {l : List Int} {t : Nat} {x0 x1 x2 x3 : Int} (h : (l.drop (4 * t)).take (4 * t + 4 - 4 * t) = [x0, x1, x2, x3]) : word l t = ((x0 * 256 + x1) * 256 + x2) * 256 + x3 := by
  have g : ∀ i, i < 4 → l.getD (4 * t + i) 0 = [x0, x1, x2, x3].getD i 0 := fun i hi => by
    rw [← h, take_getD (by omega), drop_getD]
  have h0 := g 0 (by omega)
  have h1 := g 1 (by omega)
  have h2 := g 2 (by omega)
  have h3 := g 3 (by omega)
  simp only [Nat.add_zero, List.getD_cons_zero, List.getD_cons_succ] at h0 h1 h2 h3
  unfold word
  rw [h0, h1, h2, h3]
theorem or32 (a b : Nat) (i : Nat) (ha : a % 2 ^ i = 0) (h2 : a < 4294967296) (hb : b < 2 ^ i) (h3 : b < 4294967296) : bits .or .u32 (a : Int) (b : Int) = ((a + b : Nat) : Int) := by
  rw [u32_or_nat a b h2 h3, nat_join i a b ha hb]
theorem word_or (x0 x1 x2 x3 : Int) (h0 : 0 ≤ x0 ∧ x0 ≤ 255) (h1 : 0 ≤ x1 ∧ x1 ≤ 255) (h2 : 0 ≤ x2 ∧ x2 ≤ 255) (h3 : 0 ≤ x3 ∧ x3 ≤ 255) :
    bits .or .u32 (bits .or .u32 (bits .or .u32 (x0 * 16777216) (x1 * 65536)) (x2 * 256)) x3 = ((x0 * 256 + x1) * 256 + x2) * 256 + x3 := by
  obtain ⟨a0, rfl⟩ : ∃ n : Nat, x0 = n := ⟨x0.toNat, by omega⟩
  obtain ⟨a1, rfl⟩ : ∃ n : Nat, x1 = n := ⟨x1.toNat, by omega⟩
  obtain ⟨a2, rfl⟩ : ∃ n : Nat, x2 = n := ⟨x2.toNat, by omega⟩
  obtain ⟨a3, rfl⟩ : ∃ n : Nat, x3 = n := ⟨x3.toNat, by omega⟩
  rw [show (a0 : Int) * 16777216 = ((a0 * 16777216 : Nat) : Int) by omega, show (a1 : Int) * 65536 = ((a1 * 65536 : Nat) : Int) by omega, show (a2 : Int) * 256 = ((a2 * 256 : Nat) : Int) by omega]
  rw [or32 _ _ 24 (by omega) (by omega) (by omega) (by omega), or32 _ _ 16 (by omega) (by omega) (by omega) (by omega), or32 _ _ 8 (by omega) (by omega) (by omega) (by omega)]
  omega

theorem words_step (l : List Int) (k : Nat) : (List.range (k + 1)).map (word l) = (List.range k).map (word l) ++ [word l k] := by rw [List.range_succ, List.map_append]; rfl
theorem zeros64 : (kv .u32 (fill 64 ((List.range 0).map (word [])))).toArray = (kv .u32 (fill 64 [])).toArray := rfl
theorem info70 : (Tryd.prog.info? 170).map (·.size) = some 64 := by kernel_rfl
theorem cells70 {l : List Int} (h : l.length = 64) : (Tryd.prog.info? 170).map (·.size) = some (kv .u32 l).toArray.size := by rw [info70, kv_size, h]
set_option maxRecDepth 100000 in
set_option maxHeartbeats 1000000 in
theorem schedule_any (M : Nat) (v : Value) (l : List Int) (w : World) (h : HoldsB w M v l) (hl : l.length = 64) :
    Calls Tryd.prog 118 #[v] w fun r w' => r = .returned (.agg ((sched l 48).map (Value.int .u32)).toArray) ∧ Below w.heap.size w w' := by
  have H := Lib.hid h
  have HL := Lib.hid hl
  clear h hl
  go_enter Tryd.func118, Tryd.ntmps118
  go_wp2_with fail
  go_loopw [9] (fun c wr => ∃ k : Nat, k ≤ 16 ∧ c = .int .i64 k ∧ Row wr (w.heap.size + 1) 170 .u32 (fill 64 ((List.range k).map (word l))) ∧ Row wr w.heap.size 170 .u32 (fill 64 []) ∧ Below w.heap.size w wr) (fun c _ => 16 - (intOf c).toNat)
  case atStart =>
    refine ⟨0, by omega, rfl, ?_, ?_, ?_⟩
    · exact Blk.newAt _ (by simp)
    · exact Blk.old (Blk.newAt _ rfl) _
    · exact more (more (Below.refl _ _) _) _
  case round =>
    obtain ⟨k, hk, rfl, hrow, hres, hbel⟩ := hrel
    have HR := Lib.hid hrow
    have HS := Lib.hid hres
    have HBe := Lib.hid hbel
    clear hrow hres hbel
    by_cases hlt : k < 16
    · obtain ⟨v1, hv1, hh⟩ := (H.out.keep (HBe.out)).mid (i := 4 * k) (j := 4 * k + 4) (by omega) (by have := HL.out; omega)
      obtain ⟨b, off, cap, x0, x1, x2, x3, rfl, hb, he, c0, c1, c2, c3, r0, r1, r2, r3⟩ := hh.four (by have := HL.out; simp; omega)
      have HW := Lib.hid ((word_of he).trans (word_or x0 x1 x2 x3 r0 r1 r2 r3).symm)
      simp only [show ((4 * k + 4 : Nat) : Int) = 4 * (k : Int) + 4 from by omega, show ((4 * k : Nat) : Int) = 4 * (k : Int) from by omega] at hv1
      clear hh he
      go_wp2_with fail
      have k64 : (k : Int) < 64 := by omega
      go_still_tail 24, (by kernel_rfl)
      change wpList _ _ _ _ _ wr.drew
      have HR2 := Lib.hid HR.out.drew
      have HS2 := Lib.hid HS.out.drew
      have HB2 := Lib.hid HBe.out.drew
      clear HR HS HBe c0 c1 c2 c3
      generalize wr.drew = w2 at *
      have cw := (HR2.out.cell (i := k) (by rw [fill_len (by simp; omega)]; omega))
      have fw := HR2.out.frozen k
      go_wp2_with fail
      go_roundw
      case rel =>
        refine ⟨k + 1, by omega, by go_num, ?_, ?_, ?_⟩
        · rw [← HW.out]
          refine (HR2.out.set k (word l k)).as ?_
          rw [words_step, ← fill_set (by simp; omega)]
          simp
        · exact HS2.out.other (by simp) _
        · exact HB2.out.setCell (by simp) _
      case measure => simp [intOf]; omega
    · have HK : Hid (k = 16) := by show _ = _; omega
      have HRk : Hid (Row wr (w.heap.size + 1) 170 .u32 (fill 64 (sched l 0))) := by
        have h := HR.out
        rw [HK.out] at h
        exact h
      have hge : 16 ≤ (k : Int) := by omega
      clear hlt HR hk
      go_wp2_with fail
      clear hge
      go_loopw [44] (fun c wq => ∃ k : Nat, k ≤ 48 ∧ c = .int .i64 k ∧ Row wq (w.heap.size + 1) 170 .u32 (fill 64 (sched l k)) ∧ Row wq w.heap.size 170 .u32 (fill 64 []) ∧ Below w.heap.size w wq) (fun c _ => 48 - (intOf c).toNat)
      case atStart => exact ⟨0, by omega, rfl, HRk.out, HS.out, HBe.out⟩
      case round =>
        obtain ⟨j, hk2, rfl, hrow, hres, hbel⟩ := hrel
        have HR1 := Lib.hid hrow
        have HS1 := Lib.hid hres
        have HBe1 := Lib.hid hbel
        clear hrow hres hbel HRk HS HBe
        by_cases hlt : j < 48
        · have hsl := sched_len l j
          have cell : ∀ i, i < 16 + j → wr.cell? ⟨w.heap.size + 1, i, none⟩ = some (.int .u32 ((sched l j).getD i 0)) := fun i hi => by
            rw [HR1.out.cell (i := i) (by rw [fill_len (by omega)]; omega), fill_get (by omega)]
          have c0 := cell j (by omega)
          have c1 := cell (j + 1) (by omega)
          have c9 := cell (j + 9) (by omega)
          have c14 := cell (j + 14) (by omega)
          clear cell
          have hst : sched l (j + 1) = sched l j ++ [w32 (w32 (w32 ((sched l j).getD j 0 + sm0 ((sched l j).getD (j + 1) 0)) + (sched l j).getD (j + 9) 0) + sm1 ((sched l j).getD (j + 14) 0))] := rfl
          generalize (sched l j).getD j 0 = y0 at *
          generalize (sched l j).getD (j + 1) 0 = y1 at *
          generalize (sched l j).getD (j + 9) 0 = y9 at *
          generalize (sched l j).getD (j + 14) 0 = y14 at *
          have HT := Lib.hid hst
          have HN := Lib.hid hsl
          clear hst hsl
          have k48 : (j : Int) < 48 := by omega
          go_wp2_with fail
          go_quiet (fail)
          go_wp2_with fail
          refine (rotl _ 7 (-7) _ (by decide) (by decide) (by decide)).mono ?_
          rintro r w1 ⟨rfl, rfl⟩
          go_wp2_with fail
          refine (rotl _ 18 (-18) _ (by decide) (by decide) (by decide)).mono ?_
          rintro r w1 ⟨rfl, rfl⟩
          go_wp2_with fail
          refine (rotl _ 17 (-17) _ (by decide) (by decide) (by decide)).mono ?_
          rintro r w1 ⟨rfl, rfl⟩
          go_wp2_with fail
          refine (rotl _ 19 (-19) _ (by decide) (by decide) (by decide)).mono ?_
          rintro r w1 ⟨rfl, rfl⟩
          go_wp2_with fail
          have HR2 := Lib.hid (HR1.out.drewN nq)
          have HS2 := Lib.hid (HS1.out.drewN nq)
          have HB2 := Lib.hid (below_drewN HBe1.out nq)
          have d0 : (wr.drewN nq).cell? ⟨w.heap.size + 1, j, none⟩ = some (.int .u32 y0) := c0
          have d9 : (wr.drewN nq).cell? ⟨w.heap.size + 1, j + 9, none⟩ = some (.int .u32 y9) := c9
          clear HR1 HS1 HBe1 c0 c1 c9 c14
          generalize wr.drewN nq = w1 at *
          have e16 : IntKind.i64.wrap ((j : Int) + 16) = (j : Int) + 16 := IntWalk.i64_in _ (by omega)
          have e9 : IntKind.i64.wrap ((j : Int) + 9) = (j : Int) + 9 := IntWalk.i64_in _ (by omega)
          have a0 : (j : Int) < 64 := by omega
          have a9 : (j : Int) + 9 < 64 := by omega
          have a16 : (j : Int) + 16 < 64 := by omega
          have p9 : 0 ≤ (j : Int) + 9 := by omega
          have p16 : 0 ≤ (j : Int) + 16 := by omega
          have n9 : ((j : Int) + 9).toNat = j + 9 := by omega
          have n16 : ((j : Int) + 16).toNat = j + 16 := by omega
          go_still_tail 15, (by kernel_rfl)
          clear e16 e9 p9 p16 n9 n16 a0 a9 d0 d9
          change wpList _ _ _ _ _ w1.drew
          have HR3 := Lib.hid HR2.out.drew
          have HS3 := Lib.hid HS2.out.drew
          have HB3 := Lib.hid HB2.out.drew
          clear HR2 HS2 HB2
          generalize w1.drew = w2 at *
          have cw := (HR3.out.cell (i := j + 16) (by rw [fill_len (by have := HN.out; omega)]; omega))
          have fw := HR3.out.frozen (j + 16)
          go_wp2_with fail
          go_roundw
          case rel =>
            refine ⟨j + 1, by omega, by go_num, ?_, ?_, ?_⟩
            · refine (HR3.out.set (j + 16) _).as ?_
              have h2 := fill_set (n := 64) (l := sched l j) (by have := HN.out; omega) (w32 (w32 (w32 (y0 + sm0 y1) + y9) + sm1 y14))
              rw [HT.out, ← h2, HN.out, Nat.add_comm 16 j]
              congr 1
              unfold w32 sm0 sm1
              simp only [w32_mod]
              omega
            · exact HS3.out.other (by simp) _
            · exact HB3.out.setCell (by simp) _
          case measure => simp [intOf]; omega
        · obtain rfl : j = 48 := by omega
          clear hlt
          have hf : fill 64 (sched l 48) = sched l 48 := fill_full (by rw [sched_len])
          have HR2 : Hid (Row wr (w.heap.size + 1) 170 .u32 (sched l 48)) := HR1.out.as hf
          have HC := Lib.hid (cells70 (l := sched l 48) (by rw [sched_len]))
          have HR3 := Lib.hid ((HS1.out.setRow (sched l 48)))
          have hsz := HS1.out.lt
          have HZ : Hid ((kv .u32 (fill 64 [])).toArray.size = (kv .u32 (sched l 48)).toArray.size) := by show _ = _; rw [kv_size, kv_size, sched_len]; rfl
          have HB3 := Lib.hid (Below.row HBe1.out (g := w.heap.size) (Nat.le_refl _) (kv .u32 (sched l 48)).toArray)
          clear hf HR1 hsz
          go_wp2_with (first
            | (refine wpList_load_row rfl 170 (.tmp 3) rfl (w.heap.size + 1) rfl 170 (kv .u32 (sched l 48)).toArray (0, 0) _ HR2.out Tryd.underlying170 rfl HC.out ?_)
            | (refine wpList_store_row rfl 170 (.tmp 2) (.tmp 87) rfl w.heap.size (kv .u32 (sched l 48)).toArray rfl rfl 170 _ HS1.out HC.out HZ.out (kv_all _ _) ?_))
          refine bodyPost_ret (v := .agg (kv .u32 (sched l 48)).toArray) ?_ rfl ⟨rfl, HB3.out⟩
          exact results_cell_row rfl _ _ w.heap.size 170 _ (0, 0) _ rfl HR3.out Tryd.underlying170 rfl HC.out
end Go.Proofs.YtgabjmmmiogfjaaDoor
