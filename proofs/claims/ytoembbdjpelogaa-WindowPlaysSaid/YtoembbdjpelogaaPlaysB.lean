/-
  The document's Take, where the number is of the window's own boot: all that was taken is copied, and the number put behind it.
-/
import Derived.Test.YtoembbdjpelogaaPlaysA
import Derived.RegionTactic
import Derived.BigRegion
namespace Go.Proofs.Ytoembbdjpelogaa
open Go.RowKit

theorem info73 : (Try.prog.info? 73).map (fun i => (i.zero, i.size, i.bytes)) = some (some (.int .u64 0), 1, 8) := by kernel_rfl

theorem holds_of_row {w : World} {base : Nat} {v : Value} {l : List Nat} (h : w.ownsRow base 73 1 v l.length (l.map fun x : Nat => Value.int .u64 x)) : HoldsL w v l := by
  by_cases h0 : 0 < l.length
  · obtain ⟨g, cap, rfl, _, _⟩ := h.form h0
    refine ⟨_, cap, rfl, fun _ => ⟨g, 0, rfl, fun i hi => ?_⟩⟩
    rw [Nat.zero_add, h.cellAt i (by omega)]
    rw [List.getElem?_map, List.getElem?_eq_getElem hi]
    simp [List.getElem?_eq_getElem hi]
  · rcases h.2 with ⟨rfl, hn⟩ | ⟨g, cap, cur, rfl, _, _⟩
    · exact ⟨none, 0, by rw [hn], fun h => absurd h h0⟩
    · exact ⟨_, cap, rfl, fun h => absurd h h0⟩
theorem HoldsL.setCell {w : World} {g n cap : Nat} {l : List Nat} (h : HoldsL w (.slice (some ⟨g, 0, none⟩) n cap) l) {p : Addr} (hp : p.block ≠ g) (u : Value) : HoldsL (w.setCell p u) (.slice (some ⟨g, 0, none⟩) n cap) l := by
  obtain ⟨a, c, e, ha⟩ := h
  refine ⟨a, c, e, fun h0 => ?_⟩
  obtain ⟨b, off, rfl, hc⟩ := ha h0
  refine ⟨b, off, rfl, fun i hi => ?_⟩
  simp only [Value.slice.injEq, Option.some.injEq, Addr.mk.injEq, and_true] at e
  rw [World.cell?_of_block (w := w) (Below.heap_setCell _ _ _ _ (by show b ≠ p.block; omega))]
  exact hc i hi
theorem HoldsL.drew {w : World} {v : Value} {l : List Nat} (h : HoldsL w v l) : HoldsL w.drew v l := h
theorem own_far {w : World} {base n b : Nat} {v : Value} {xs : List Value} {e : TypeId} {s : Nat} (h : w.ownsRow base e s v n xs) (hb : b < base) : some b ≠ v.ownBlock := by
  rcases h.2 with ⟨rfl, _⟩ | ⟨g, cap, cur, rfl, hg, _⟩
  · simp [Value.ownBlock]
  · simp [Value.ownBlock]; omega
theorem Blk.grownRow {w w' : World} {b : Nat} {o : Obj} {row : Option Nat} (h : Blk w b o) (hg : w.grownBy w' row) (hne : some b ≠ row) : Blk w' b o := (hg.block b h.lt hne).trans h

set_option maxRecDepth 100000 in
set_option maxHeartbeats 3200000 in
theorem takeL_more (size boot top : Nat) (l : List Nat) (a : Option Addr) (cap : Nat) (count : Nat) (w : World) (hl : l.length ≤ 1000) (hv : HoldsL w (.slice a l.length cap) l) (hs : size ≤ 64) (h2 : top ≤ 18446744073709551615)
    (hb0 : boot ≠ 0) (hc0 : count ≠ 0) (hf : freshL size boot top l boot count = true) :
    Calls Try.prog 40 #[.agg #[.int .i64 size, .int .u64 boot, .int .u64 top, .slice a l.length cap], .int .u64 boot, .int .u64 count] w (TakeLPost size boot top l (.slice a l.length cap) boot count w) := by
  have hr : takeLR size boot top l boot count = 0 := by
    unfold takeLR
    rw [if_neg (by omega), if_pos hf]
  have hT : takeLT size boot top l boot count = if top < count then count else top := by simp [takeLT, hr]
  have HP : Hid (∀ w' v t, t = (if top < count then count else top) → HoldsL w' v (l ++ [count]) → Below w.heap.size w w' → NewAt w.heap.size v → TakeLPost size boot top l (.slice a l.length cap) boot count w (.returned (.tuple #[.int .i64 (0 : Nat), .agg #[.int .i64 size, .int .u64 boot, .int .u64 (t : Nat), v]])) w') :=
    fun w' v t ht hh hb hn => TakeLPost.mk (.inr hn) hr (by simp [takeLB, hr]) (by rw [hT, ht]) (by simp [takeLL, hr]) hh hb
  have t0 : ((boot : Int) == 0) = false := by simp [hb0]
  have t1 : ((count : Int) == 0) = false := by simp [hc0]
  have HV := Lib.hid hv
  have HF := Lib.hid hf
  obtain ⟨i0, hi, hz0, hz1, hz2⟩ := info_parts info73
  clear hv hf
  go_enter Try.func40, Try.ntmps40
  go_wp2_with fail
  refine (freshL_any size boot top l _ boot count _ hl ((HV.out.keep (more (Below.refl _ _) _)).keep (more (Below.refl _ _) _)) hs h2).mono ?_
  rintro r w1 ⟨rfl, hb⟩
  rw [HF.out]
  obtain ⟨hbel, hsz, b1, b2⟩ := after_two hb
  have HHOLD := Lib.hid ((((HV.out.keep (more (Below.refl _ _) _)).keep (more (Below.refl _ _) _)).keep hb))
  obtain ⟨c0, c1, c2, c3, f0, f1, f2, f3⟩ := b1.four
  clear hb
  go_wp2_with fail
  have HL0 := Lib.hid hbel
  have hown0 : w1.ownsRow (w.heap.size + 2) 73 1 (.slice none 0 0) 0 ((l.map fun x : Nat => Value.int .u64 x).take 0) := World.ownsRow_nil _ _ _ _
  have HS0 := Lib.hid (And.intro hown0 (And.intro b1 (And.intro b2 (And.intro hbel hsz))))
  clear hown0 b1 b2 hbel hsz c0 c1 c2 c3 f0 f1 f2 f3
  go_loopw [8, 9] (fun v c wr => ∃ k : Nat, k ≤ l.length ∧ c = .int .i64 k ∧ wr.ownsRow (w.heap.size + 2) 73 1 v k ((l.map fun x : Nat => Value.int .u64 x).take k) ∧
      Blk wr w.heap.size (.cells #[.int .i64 size, .int .u64 boot, .int .u64 top, .slice a l.length cap] 82) ∧ Blk wr (w.heap.size + 1) (.cells #[.int .i64 0, .int .u64 0, .int .u64 0, .slice none 0 0] 82) ∧ Below w.heap.size w wr ∧ w.heap.size + 2 ≤ wr.heap.size)
    (fun _ c _ => l.length - (intOf c).toNat)
  case atStart => exact ⟨0, Nat.zero_le _, rfl, HS0.out⟩
  case round =>
    obtain ⟨k, hk, rfl, hown, b1, b2, E0, S0⟩ := hrel
    obtain ⟨c0, c1, c2, c3, f0, f1, f2, f3⟩ := b1.four
    have l1 := b1.lt
    have HOWN := Lib.hid hown
    clear hown
    by_cases hlt : k < l.length
    · obtain ⟨a', cap', e1, hA⟩ := HV.out.keep E0
      obtain ⟨b, off, e2, hc⟩ := hA (by omega)
      have hck := hc k hlt
      have e3 : a = some ⟨b, off, none⟩ := by
        injection e1 with e1
        rw [e1, e2]
      clear hA hc e1 e2
      subst e3
      have hx : Hid ((l.map fun x : Nat => Value.int .u64 x).take (k + 1) = (l.map fun x : Nat => Value.int .u64 x).take k ++ [Value.int .u64 (l.getD k 0 : Nat)]) := by
        unfold Hid
        rw [List.take_succ_eq_append_getElem (by simpa using hlt), List.getD_eq_getElem?_getD, List.getElem?_eq_getElem hlt]
        simp
      generalize l.getD k 0 = x at hck hx
      go_wp2_with (at_builtin; refine wpList_append_own _ rfl _ _ 80 rfl (w.heap.size + 2) 73 i0 (.int .u64 0) 1 8 Try.underlying80 hi hz0 hz1 hz2 rfl (by decide) _ _ _ rfl (HOWN.out.alloc _) ⟨wr.heap.size, 0, none⟩ 1 1 [.int .u64 x] rfl rfl ?c1 ?c2 ?c3 ?c4 ?c5 ?_)
      case c1 =>
        intro j u hj
        match j, hj with
        | 0, hj => simp at hj; subst hj; simp [Addr.add]
      case c2 => intro u hu; simp at hu; subst hu; rfl
      case c3 => unfold maxLen; omega
      case c4 => omega
      case c5 => simp; omega
      · intro v' w2 hown' hgrow _
        have HO2 := Lib.hid hown'
        have HG2 := Lib.hid hgrow
        clear hown' hgrow
        go_wp2_with fail
        refine ⟨⟨k + 1, by omega, by go_num, ?_, (b1.old _).grownRow HG2.out (own_far HOWN.out (by omega)), (b2.old _).grownRow HG2.out (own_far HOWN.out (by omega)), (more' E0 (by omega) _).grown HG2.out (by simp; omega) (fun j hj => ?_), ?_⟩, by simp [intOf]; omega⟩
        · rw [hx.out]
          exact HO2.out
        · have := own_far (b := j) HOWN.out
          false_or_by_contra
          exact this (by omega) hj.symm
        · have := HG2.out.size
          simp at this
          omega
    · obtain rfl : k = l.length := by omega
      go_wp2_with (at_builtin; refine wpList_append_own _ rfl _ _ 80 rfl (w.heap.size + 2) 73 i0 (.int .u64 0) 1 8 Try.underlying80 hi hz0 hz1 hz2 rfl (by decide) _ _ _ rfl (HOWN.out.alloc _) ⟨wr.heap.size, 0, none⟩ 1 1 [.int .u64 count] rfl rfl ?c1 ?c2 ?c3 ?c4 ?c5 ?_)
      case c1 =>
        intro j u hj
        match j, hj with
        | 0, hj => simp at hj; subst hj; simp [Addr.add]
      case c2 => intro u hu; simp at hu; subst hu; rfl
      case c3 => unfold maxLen; omega
      case c4 => omega
      case c5 => simp; omega
      · intro v' w2 hown' hgrow _
        obtain ⟨g, gc, rfl, hg, _⟩ := hown'.form (by omega)
        have HH := Lib.hid (holds_of_row (w := w2) (base := w.heap.size + 2) (v := .slice (some ⟨g, 0, none⟩) (l.length + 1) gc) (l := l ++ [count]) (by
          rw [List.take_of_length_le (by simp)] at hown'
          simpa using hown'))
        have B1 := (b1.old (.cells #[.int .u64 count] 73)).grownRow hgrow (own_far HOWN.out (by omega))
        have B2 := (b2.old (.cells #[.int .u64 count] 73)).grownRow hgrow (own_far HOWN.out (by omega))
        have E2 := (more' E0 (by omega) (.cells #[.int .u64 count] 73)).grown hgrow (by simp; omega) (fun j hj => by
          have := own_far (b := j) HOWN.out
          false_or_by_contra
          exact this (by omega) hj.symm)
        clear hown' hgrow b1 b2 c0 c1 c2 c3 f0 f1 f2 f3
        obtain ⟨c0, c1, c2, c3, f0, f1, f2, f3⟩ := B1.four
        obtain ⟨d0, d1, d2, d3, g0, g1, g2, g3⟩ := B2.four
        have hne1 : g ≠ w.heap.size := by omega
        have hne2 : g ≠ w.heap.size + 1 := by omega
        by_cases htop : top < count
        · have t5 : (top : Int) < count := by omega
          go_wp2_with fail
          go_region
          go_wp2_with fail
          refine bodyPost_ret (v := .tuple #[.int .i64 (0 : Nat), .agg #[.int .i64 size, .int .u64 boot, .int .u64 (count : Nat), .slice (some ⟨g, 0, none⟩) (l.length + 1) gc]]) (by simp [results, Try.results40, go_sem, c0, c1, c2, c3, d0, d1, d2, d3]) rfl (HP.out _ _ _ (by rw [if_pos htop]) ?_ ?_ ⟨g, _, _, rfl, by omega⟩)
          · repeat (first | with_reducible exact HH.out | with_reducible refine HoldsL.drew ?_ | with_reducible refine HoldsL.setCell ?_ (by simp; omega) _)
          · repeat (first | with_reducible exact E2 | with_reducible refine Below.drew ?_ | with_reducible refine Below.setCell ?_ (by simp) _)
        · have t5 : (count : Int) ≤ top := by omega
          go_wp2_with fail
          go_region
          go_wp2_with fail
          refine bodyPost_ret (v := .tuple #[.int .i64 (0 : Nat), .agg #[.int .i64 size, .int .u64 boot, .int .u64 (top : Nat), .slice (some ⟨g, 0, none⟩) (l.length + 1) gc]]) (by simp [results, Try.results40, go_sem, c0, c1, c2, c3, d0, d1, d2, d3]) rfl (HP.out _ _ _ (by rw [if_neg htop]) ?_ ?_ ⟨g, _, _, rfl, by omega⟩)
          · repeat (first | with_reducible exact HH.out | with_reducible refine HoldsL.drew ?_ | with_reducible refine HoldsL.setCell ?_ (by simp; omega) _)
          · repeat (first | with_reducible exact E2 | with_reducible refine Below.drew ?_ | with_reducible refine Below.setCell ?_ (by simp) _)
end Go.Proofs.Ytoembbdjpelogaa
