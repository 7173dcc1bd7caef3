/-
  The walk of the law WindowPlays.
-/
import Derived.Test.YtoembbdjpelogaaPlaysC
import Derived.Test.YtoembbdjpelogaaPlaysP
import Derived.Test.YtoembbdjpelogaaCtr
import Derived.LoopTactic
import Derived.Outline
import Derived.RegionTactic
import Derived.BigRegion
namespace Go.Proofs.Ytoembbdjpelogaa
open Go.RowKit

abbrev opObj (a b : Nat) : Obj := .cells #[.int .u64 a, .int .u64 b] 75
abbrev modObj (s wb top : Nat) (v : Value) : Obj := .cells #[.int .i64 s, .int .u64 wb, .int .u64 top, v] 82
/-- A slice in a block behind M, or in none. -/
def Far (M : Nat) (v : Value) : Prop := ∀ a n c, v = .slice (some a) n c → M < a.block
theorem Far.other {M B : Nat} {v : Value} (h : Far M v) (hB : B ≤ M) : ∀ a n c, v = .slice (some a) n c → a.block ≠ B := fun a n c e => by have := h a n c e; omega

theorem HoldsL.setFar {w : World} {v : Value} {l : List Nat} {M : Nat} (h : HoldsL w v l) (hf : Far M v) (j : Nat) (u : Value) : HoldsL (w.setCell ⟨M, j, none⟩ u) v l := by
  obtain ⟨a, c, rfl, ha⟩ := h
  refine ⟨a, c, rfl, fun h0 => ?_⟩
  obtain ⟨b, off, rfl, hc⟩ := ha h0
  refine ⟨b, off, rfl, fun i hi => ?_⟩
  have := hf _ _ _ rfl
  rw [World.cell?_of_block (w := w) (Below.heap_setCell _ _ _ _ (by show b ≠ M; simp at this; omega))]
  exact hc i hi
theorem HoldsL.drewN {w : World} {v : Value} {l : List Nat} (h : HoldsL w v l) (n : Nat) : HoldsL (w.drewN n) v l := h
theorem Far.new {M B : Nat} {v v0 : Value} (h : Far M v0) (hn : v = v0 ∨ NewAt B v) (hB : M < B) : Far M v := by
  rcases hn with rfl | ⟨g, n, c, rfl, hg⟩
  · exact h
  · intro a n' c' e
    simp only [Value.slice.injEq, Option.some.injEq] at e
    obtain ⟨rfl, _⟩ := e
    simp; omega

theorem plays_no (size : Int) (a : Option Addr) (len cap : Nat) (p q : Nat) (w : World) (h : size < 1 ∨ 64 < size) :
    Calls Try.prog 10 #[.int .i64 size, .slice a len cap, .agg #[.int .u64 p, .int .u64 q]] w fun r w' => r = .returned (.bool true) ∧ Below w.heap.size w w' := by
  have hh := h
  rcases h with h | h
  all_goals
    go_enter Try.func10, Try.ntmps10
    go_wp2_with fail
    refine (new_no size _ hh).mono ?_
    rintro r w1 ⟨rfl, rfl⟩
    have E0 := more (Below.refl w.heap.size w) (opObj p q)
    revert E0
    generalize w.alloc (opObj p q) = wa
    intro E0
    go_wp2_with fail
    refine (awake_any _).mono ?_
    rintro r w3 ⟨rfl, hb⟩
    go_wp2_with fail
    go_ret
    exact ⟨rfl, thru E0 hb⟩

set_option maxRecDepth 100000 in
set_option maxHeartbeats 3200000 in
theorem plays_yes (s : Nat) (a : Option Addr) (len cap : Nat) (f : Nat → Nat × Nat) (p q : Nat) (w : World) (hs1 : 1 ≤ s) (hs2 : s ≤ 64) (hops : IsOps w a len f) :
    Calls Try.prog 10 #[.int .i64 s, .slice a len cap, .agg #[.int .u64 p, .int .u64 q]] w fun r w' => r = .returned (.bool true) ∧ Below w.heap.size w w' := by
  obtain ⟨hl, hops⟩ := hops
  unfold maxLen at hl
  have u1 : ¬ (s : Int) < 1 := by omega
  have u2 : ¬ (64 : Int) < s := by omega
  go_enter Try.func10, Try.ntmps10
  have HC := Lib.hid hops
  clear hops
  go_wp2_with fail
  refine (new_yes s _ hs1 hs2).mono ?_
  rintro r w1 ⟨rfl, rfl⟩
  have BA := (Blk.new w (opObj p q)).old (winObj s 0 0 0)
  have BW : Blk ((w.alloc (opObj p q)).alloc (winObj s 0 0 0)) (w.heap.size + 1) (winObj s 0 0 0) := Blk.newAt _ (by simp)
  have E0 : Below w.heap.size w ((w.alloc (opObj p q)).alloc (winObj s 0 0 0)) := more (more (Below.refl _ _) _) _
  have S0 : w.heap.size + 2 ≤ ((w.alloc (opObj p q)).alloc (winObj s 0 0 0)).heap.size := by simp
  simp only [World.size_alloc]
  revert BA BW E0 S0
  generalize (w.alloc (opObj p q)).alloc (winObj s 0 0 0) = W
  generalize hA : w.heap.size = A at HC ⊢
  have HA := Lib.hid hA
  clear hA
  intro BA BW E0 S0
  go_wp2_with fail
  refine (awake_any _).mono ?_
  rintro r w3 ⟨rfl, hb⟩
  replace E0 := E0.trans (hb.mono (by omega))
  replace S0 := Nat.le_trans S0 hb.size
  replace BW := BW.keep hb
  replace BA := BA.keep hb
  clear hb
  go_wp2_with fail
  have BM := Blk.new w3 (modObj s 0 0 (.slice none 0 0))
  replace BA := BA.old (modObj s 0 0 (.slice none 0 0))
  replace BW := BW.old (modObj s 0 0 (.slice none 0 0))
  replace E0 := more' E0 (by omega) (modObj s 0 0 (.slice none 0 0))
  have hM : A + 2 ≤ w3.heap.size := S0
  replace S0 : w3.heap.size + 1 ≤ (w3.alloc (modObj s 0 0 (.slice none 0 0))).heap.size := by simp
  revert BA BW BM E0 S0 hM
  generalize w3.alloc (modObj s 0 0 (.slice none 0 0)) = W4
  generalize w3.heap.size = M
  intro BM BA BW E0 hM S0
  have hstart : ∃ i wb top tk : Nat, ∃ l : List Nat, ∃ v : Value, i ≤ len ∧ l.length ≤ i ∧ i ≤ 150 ∧ (Value.int .i64 0 = Value.int .i64 (i : Nat)) ∧ top ≤ 18446744073709551615 ∧ Coh top tk l ∧ HoldsL W4 v l ∧ Far M v ∧
      Blk W4 A (opObj p q) ∧ Blk W4 (A + 1) (winObj s wb top tk) ∧ Blk W4 M (modObj s wb top v) ∧ Below A w W4 ∧ M + 1 ≤ W4.heap.size :=
    ⟨0, 0, 0, 0, [], .slice none 0 0, by omega, by simp, by omega, rfl, by omega, Coh.start, ⟨none, 0, rfl, fun h => absurd h (by simp)⟩, (fun _ _ _ e => by simp at e), BA, BW, BM, E0, S0⟩
  have HSTART := Lib.hid hstart
  clear hstart BA BW BM E0 S0
  go_loopw [10, 11, 12, 13, 14, 15, 50] (fun _ _ _ _ _ _ c wr => ∃ i wb top tk : Nat, ∃ l : List Nat, ∃ v : Value, i ≤ len ∧ l.length ≤ i ∧ i ≤ 150 ∧ c = .int .i64 (i : Nat) ∧ top ≤ 18446744073709551615 ∧ Coh top tk l ∧ HoldsL wr v l ∧ Far M v ∧
      Blk wr A (opObj p q) ∧ Blk wr (A + 1) (winObj s wb top tk) ∧ Blk wr M (modObj s wb top v) ∧ Below A w wr ∧ M + 1 ≤ wr.heap.size)
    (fun _ _ _ _ _ _ c _ => len - (intOf c).toNat)
  case atStart => exact HSTART.out
  case round =>
    obtain ⟨i, wb, top, tk, l, v, hi, hli, hi150, rfl, htop, hcoh, hhold, hfar, BA, BW, BM, E0, S0⟩ := hrel
    have HCOH := Lib.hid hcoh
    have HHOLD := Lib.hid hhold
    have HFAR := Lib.hid hfar
    clear hcoh hhold hfar
    by_cases hlt : i < len
    · obtain ⟨b, off, rfl, hbB, hc⟩ := HC.out (by omega)
      obtain ⟨hc1, hc2, hbt, hct⟩ := hc i hlt
      have hd1 := (E0.cell (p := ⟨b, off + i * 2, none⟩) hbB).trans hc1
      have hd2 := (E0.cell (p := ⟨b, off + i * 2 + 1, none⟩) hbB).trans hc2
      clear hc hc1 hc2
      generalize (f i).1 = bt at hd1 hd2 hbt hct
      generalize (f i).2 = ct at hd1 hd2 hbt hct
      by_cases h150 : 150 ≤ i
      · have h151 : (150 : Int) ≤ (i : Int) := by omega
        go_wp2_with fail
        go_ret
        exact ⟨rfl, by rw [HA.out]; exact more' E0 (by omega) _⟩
      · have h151 : ¬ (150 : Int) ≤ (i : Int) := by omega
        go_wp2_with fail
        have BA1 := BA.old (opObj bt ct)
        have BW1 := BW.old (opObj bt ct)
        have BM1 := BM.old (opObj bt ct)
        have BO1 := Blk.new wr (opObj bt ct)
        have E1 := more' E0 (by omega) (opObj bt ct)
        have S1 : wr.heap.size + 1 ≤ (wr.alloc (opObj bt ct)).heap.size := by simp
        have HH1 := Lib.hid (HHOLD.out.keep (more (Below.refl _ _) (opObj bt ct)))
        have hO : M + 1 ≤ wr.heap.size := S0
        clear BA BW BM E0 S0 HHOLD hd1 hd2
        revert BA1 BW1 BM1 BO1 E1 S1 HH1 hO
        generalize wr.alloc (opObj bt ct) = wa
        generalize wr.heap.size = O
        intro BA1 BW1 BM1 BO1 E1 S1 HH1 hO
        have hS0 : Below A w wa ∧ Blk wa A (opObj p q) ∧ Blk wa (A + 1) (winObj s wb top tk) ∧ Blk wa M (modObj s wb top v) ∧ Blk wa O (opObj bt ct) ∧ HoldsL wa v l ∧ O + 1 ≤ wa.heap.size := ⟨E1, BA1, BW1, BM1, BO1, HH1.out, S1⟩
        have HS0 := Lib.hid hS0
        clear hS0 BA1 BW1 BM1 BO1 E1 S1 HH1
        refine wp_region_flow (fun w' => Below A w w' ∧ Blk w' A (opObj p q) ∧ Blk w' (A + 1) (winObj s wb top tk) ∧ Blk w' M (modObj s wb top v) ∧ Blk w' O (opObj bt ct) ∧ HoldsL w' v l ∧ O + 1 ≤ w'.heap.size) (by kernel_rfl) (by kernel_rfl) (by kernel_rfl)
          (fun _ _ h hb => ⟨h.1.trans (hb.mono (by have := h.2.2.2.2.2.2; omega)), h.2.1.keep hb, h.2.2.1.keep hb, h.2.2.2.1.keep hb, h.2.2.2.2.1.keep hb, h.2.2.2.2.2.1.keep hb, Nat.le_trans h.2.2.2.2.2.2 hb.size⟩) ⟨HS0.out.1.drew, HS0.out.2.1.draw, HS0.out.2.2.1.draw, HS0.out.2.2.2.1.draw, HS0.out.2.2.2.2.1.draw, HS0.out.2.2.2.2.2.1.drew, HS0.out.2.2.2.2.2.2⟩ ?_
        repeat (first
          | (apply Flow.idle
             · rfl
             try simp only [Act.put, List.setIfInBounds_toArray, List.set_cons_zero, List.set_cons_succ])
          | (apply Flow.value
             · rfl
             · (intro wx hS; have c1 := hS.2.1.cell; have c2 := hS.2.2.1.cell; have c3 := hS.2.2.2.1.cell; have c4 := hS.2.2.2.2.1.cell; go_simp; with_reducible rfl)
             try simp only [Act.put, List.setIfInBounds_toArray, List.set_cons_zero, List.set_cons_succ])
          | (apply Flow.call
             · rfl
             · (intro wx hS; go_simp; constructor <;> with_reducible rfl)
             · (intro wx hS; first
                | exact (fresh_any (A + 1) s wb top tk bt ct wx hS.2.2.1 hs2 htop HCOH.out.lt).mono (by rintro r w9 ⟨h1, rfl⟩; exact ⟨h1, Below.refl _ _⟩)
                | exact freshL_any s wb top l v bt ct wx (by omega) hS.2.2.2.2.2.1 hs2 htop)
             try simp only [Act.put, List.setIfInBounds_toArray, List.set_cons_zero, List.set_cons_succ]))
        refine Flow.done ?_
        intro w4 hS
        rw [HCOH.out.fresh hs2 bt ct]
        generalize freshN s wb top tk bt ct = fb
        have e1 : (!(fb == fb)) = false := by simp
        rw [e1]
        clear HS0
        have HS4 := Lib.hid hS
        obtain ⟨o0, o1, -⟩ := hS.2.2.2.2.1.two
        obtain ⟨m0, m1, m2, m3, -⟩ := hS.2.2.2.1.four
        have lO := hS.2.2.2.2.1.lt
        have lM := hS.2.2.2.1.lt
        clear hS
        go_wp2_with fail
        refine (takeL_any s wb top l v bt ct _ (by omega) HS4.out.2.2.2.2.2.1 hs2 htop).mono ?_
        rintro r w5 ⟨v', hn', rfl, hh5, hb5⟩
        obtain ⟨a5, c5, rfl, -⟩ := id hh5
        obtain ⟨n5, hn5⟩ : ∃ n, n = (takeLL s wb top l bt ct).length := ⟨_, rfl⟩
        rw [← hn5] at hh5 hn' ⊢
        have HN5 := Lib.hid hn5
        clear hn5
        obtain ⟨q1, q2, q3⟩ := HCOH.out.takes (wb := wb) hs2 bt ct
        have hcoh2 := HCOH.out.step (wb := wb) hs2 bt ct
        have hll := takeLL_length (size := s) (wb := wb) (top := top) (l := l) (boot := bt) (count := ct)
        have htop2 := takeT_lt (size := s) (wb := wb) (tk := tk) (boot := bt) htop hct
        have hfar2 := HFAR.out.new hn' (show M < w4.heap.size from lM)
        rw [q1, q2, q3]
        have HCOH2 := Lib.hid hcoh2
        have HFAR2 := Lib.hid hfar2
        have SS := HS4.out
        have BA5 := (SS.2.1.keep hb5).old (modObj s (takeB s wb top tk bt ct) (takeT s wb top tk bt ct) (.slice a5 n5 c5))
        have BW5 := (SS.2.2.1.keep hb5).old (modObj s (takeB s wb top tk bt ct) (takeT s wb top tk bt ct) (.slice a5 n5 c5))
        have BM5 := (SS.2.2.2.1.keep hb5).old (modObj s (takeB s wb top tk bt ct) (takeT s wb top tk bt ct) (.slice a5 n5 c5))
        have BO5 := (SS.2.2.2.2.1.keep hb5).old (modObj s (takeB s wb top tk bt ct) (takeT s wb top tk bt ct) (.slice a5 n5 c5))
        have BN5 := Blk.new w5 (modObj s (takeB s wb top tk bt ct) (takeT s wb top tk bt ct) (.slice a5 n5 c5))
        have hs5 := hb5.size
        have hs4 := SS.2.2.2.2.2.2
        have E5 := more' (SS.1.trans (hb5.mono (by omega))) (by omega) (modObj s (takeB s wb top tk bt ct) (takeT s wb top tk bt ct) (.slice a5 n5 c5))
        have S5 : M + 1 ≤ (w5.alloc (modObj s (takeB s wb top tk bt ct) (takeT s wb top tk bt ct) (.slice a5 n5 c5))).heap.size := by simp; omega
        have HH5 := Lib.hid (hh5.keep (more (Below.refl _ _) (modObj s (takeB s wb top tk bt ct) (takeT s wb top tk bt ct) (.slice a5 n5 c5))))
        have hN : O + 1 ≤ w5.heap.size := by omega
        have HTK := Lib.hid HCOH.out.lt
        clear q1 q2 q3 hcoh2 hfar2 SS HS4 hb5 hh5 hn' o0 o1 m0 m1 m2 m3 lO lM hs5 hs4 HCOH HFAR
        obtain ⟨o0, o1, -⟩ := BO5.two
        have lO := BO5.lt
        go_wp2_with fail
        clear o0 o1 lO
        revert BA5 BW5 BM5 BO5 BN5 E5 S5 HH5 hN
        generalize w5.alloc (modObj s (takeB s wb top tk bt ct) (takeT s wb top tk bt ct) (.slice a5 n5 c5)) = W5
        generalize w5.heap.size = N
        intro BA5 BW5 BM5 BO5 BN5 E5 S5 HH5 hN
        refine (take_any (A + 1) s wb top tk bt ct _ BW5 hs2 htop HTK.out (by omega)).mono ?_
        rintro r w6 ⟨rfl, hT⟩
        have BA6 := hT.keep BA5 (by omega)
        have BM6 := hT.keep BM5 (by omega)
        have BN6 := hT.keep BN5 (by omega)
        have BW6 := hT.blk
        have E6 := E5.trans (hT.below (by omega) (by omega))
        have S6 := Nat.le_trans S5 hT.size
        have HH6 := Lib.hid (HH5.out.keepTurn hT (HFAR2.out.other (by omega)))
        clear BA5 BW5 BM5 BO5 BN5 E5 S5 HH5 hT HTK hN
        generalize takeB s wb top tk bt ct = wb2 at HCOH2 BN6 BW6 ⊢
        generalize takeT s wb top tk bt ct = top2 at HCOH2 BN6 BW6 htop2 ⊢
        generalize takeK s wb top tk bt ct = tk2 at HCOH2 BN6 BW6 ⊢
        generalize takeLL s wb top l bt ct = l2 at HCOH2 HH6 HN5 hll ⊢
        obtain ⟨n0, n1, n2, n3, -⟩ := BN6.four
        obtain ⟨m0, m1, m2, m3, f0, f1, f2, f3⟩ := BM6.four
        have lM := BM6.lt
        have lN := BN6.lt
        have BM7 : Blk ((((w6.setCell ⟨M, 0, none⟩ (.int .i64 s)).setCell ⟨M, 1, none⟩ (.int .u64 wb2)).setCell ⟨M, 2, none⟩ (.int .u64 top2)).setCell ⟨M, 3, none⟩ (.slice a5 n5 c5)) M (modObj s wb2 top2 (.slice a5 n5 c5)) := (((BM6.set 0 _).set 1 _).set 2 _).set 3 _
        have BA7 : Blk ((((w6.setCell ⟨M, 0, none⟩ (.int .i64 s)).setCell ⟨M, 1, none⟩ (.int .u64 wb2)).setCell ⟨M, 2, none⟩ (.int .u64 top2)).setCell ⟨M, 3, none⟩ (.slice a5 n5 c5)) A (opObj p q) := (((BA6.setOther (by show M ≠ A; omega) _).setOther (by show M ≠ A; omega) _).setOther (by show M ≠ A; omega) _).setOther (by show M ≠ A; omega) _
        have BW7 : Blk ((((w6.setCell ⟨M, 0, none⟩ (.int .i64 s)).setCell ⟨M, 1, none⟩ (.int .u64 wb2)).setCell ⟨M, 2, none⟩ (.int .u64 top2)).setCell ⟨M, 3, none⟩ (.slice a5 n5 c5)) (A + 1) (winObj s wb2 top2 tk2) := (((BW6.setOther (by show M ≠ A + 1; omega) _).setOther (by show M ≠ A + 1; omega) _).setOther (by show M ≠ A + 1; omega) _).setOther (by show M ≠ A + 1; omega) _
        have E7 : Below A w ((((w6.setCell ⟨M, 0, none⟩ (.int .i64 s)).setCell ⟨M, 1, none⟩ (.int .u64 wb2)).setCell ⟨M, 2, none⟩ (.int .u64 top2)).setCell ⟨M, 3, none⟩ (.slice a5 n5 c5)) := (((E6.setCell (by show A ≤ M; omega) _).setCell (by show A ≤ M; omega) _).setCell (by show A ≤ M; omega) _).setCell (by show A ≤ M; omega) _
        have HH7 := Lib.hid ((((HH6.out.setFar HFAR2.out 0 (.int .i64 s)).setFar HFAR2.out 1 (.int .u64 wb2)).setFar HFAR2.out 2 (.int .u64 top2)).setFar HFAR2.out 3 (.slice a5 n5 c5))
        have S7 : M + 1 ≤ ((((w6.setCell ⟨M, 0, none⟩ (.int .i64 s)).setCell ⟨M, 1, none⟩ (.int .u64 wb2)).setCell ⟨M, 2, none⟩ (.int .u64 top2)).setCell ⟨M, 3, none⟩ (.slice a5 n5 c5)).heap.size := by simp; omega
        clear BA6 BM6 BN6 BW6 E6 S6 HH6
        go_wp2_with fail
        clear n0 n1 n2 n3 m0 m1 m2 m3 f0 f1 f2 f3 lM lN
        revert BM7 BA7 BW7 E7 HH7 S7
        generalize ((((w6.setCell ⟨M, 0, none⟩ (.int .i64 s)).setCell ⟨M, 1, none⟩ (.int .u64 wb2)).setCell ⟨M, 2, none⟩ (.int .u64 top2)).setCell ⟨M, 3, none⟩ (.slice a5 n5 c5)) = W7
        intro BM7 BA7 BW7 E7 HH7 S7
        refine (top_any (A + 1) s wb2 top2 tk2 _ BW7).mono ?_
        rintro r w8 ⟨rfl, n8, rfl⟩
        go_wp2_with fail
        refine wp_region_flow (fun w' => Below A w w' ∧ Blk w' A (opObj p q) ∧ Blk w' (A + 1) (winObj s wb2 top2 tk2) ∧ Blk w' M (modObj s wb2 top2 (.slice a5 n5 c5)) ∧ HoldsL w' (.slice a5 n5 c5) l2 ∧ M + 1 ≤ w'.heap.size) (by kernel_rfl) (by kernel_rfl) (by kernel_rfl)
          (fun _ _ h hb => ⟨h.1.trans (hb.mono (by have := h.2.2.2.2.2; omega)), h.2.1.keep hb, h.2.2.1.keep hb, h.2.2.2.1.keep hb, h.2.2.2.2.1.keep hb, Nat.le_trans h.2.2.2.2.2 hb.size⟩) ⟨(show Below A w (W7.drewN n8) from ⟨E7.os, E7.tape, E7.output, E7.size, E7.block⟩).drew, BA7, BW7, BM7, (HH7.out.drewN n8).drew, S7⟩ ?_
        repeat (first
          | (apply Flow.idle
             · rfl
             try simp only [Act.put, List.setIfInBounds_toArray, List.set_cons_zero, List.set_cons_succ])
          | (apply Flow.value
             · rfl
             · (intro wx hS; have c1 := hS.2.1.cell; have c2 := hS.2.2.1.cell; have c3 := hS.2.2.2.1.cell; go_simp; with_reducible rfl)
             try simp only [Act.put, List.setIfInBounds_toArray, List.set_cons_zero, List.set_cons_succ])
          | (apply Flow.call
             · rfl
             · (intro wx hS; go_simp; constructor <;> with_reducible rfl)
             · (intro wx hS; first
                | exact (fresh_any (A + 1) s wb2 top2 tk2 p q wx hS.2.2.1 hs2 htop2 HCOH2.out.lt).mono (by rintro r w9 ⟨h1, rfl⟩; exact ⟨h1, Below.refl _ _⟩)
                | exact freshL_any s wb2 top2 l2 (.slice a5 n5 c5) p q wx (by omega) hS.2.2.2.2.1 hs2 htop2)
             try simp only [Act.put, List.setIfInBounds_toArray, List.set_cons_zero, List.set_cons_succ]))
        refine Flow.done ?_
        intro w9 hS
        rw [HCOH2.out.fresh hs2 p q]
        generalize freshN s wb2 top2 tk2 p q = fb
        have e1 : (!(fb == fb)) = false := by simp
        rw [e1]
        have HS9 := Lib.hid hS
        clear hS BM7 BA7 BW7 E7 S7 HH7
        go_wp2_with fail
        exact ⟨⟨i + 1, wb2, top2, tk2, l2, .slice a5 n5 c5, by omega, by omega, by omega, by go_num, htop2, HCOH2.out, HS9.out.2.2.2.2.1, HFAR2.out, HS9.out.2.1, HS9.out.2.2.1, HS9.out.2.2.2.1, HS9.out.1, HS9.out.2.2.2.2.2⟩, by simp [intOf]; omega⟩
    · go_wp2_with fail
      go_ret
      exact ⟨rfl, by rw [HA.out]; exact E0⟩

theorem windowPlays_walk (size : Int) (a : Option Addr) (len cap : Nat) (f : Nat → Nat × Nat) (p q : Int) (w : World) (_ : (Lit.int .i64 size).wf = true) (hops : IsOps w a len f) (hp : (Lit.int .u64 p).wf = true) (hq : (Lit.int .u64 q).wf = true) :
    Calls Try.prog 10 #[.int .i64 size, .slice a len cap, .agg #[.int .u64 p, .int .u64 q]] w fun r w' => r = .returned (.bool true) ∧ Below w.heap.size w w' := by
  have hp := u64_range hp
  have hq := u64_range hq
  obtain ⟨p, rfl⟩ := Int.eq_ofNat_of_zero_le hp.1
  obtain ⟨q, rfl⟩ := Int.eq_ofNat_of_zero_le hq.1
  by_cases h : size < 1 ∨ 64 < size
  · exact plays_no size a len cap p q w h
  · obtain ⟨s, rfl⟩ := Int.eq_ofNat_of_zero_le (show 0 ≤ size by omega)
    exact plays_yes s a len cap f p q w (by omega) (by omega) hops
end Go.Proofs.Ytoembbdjpelogaa
