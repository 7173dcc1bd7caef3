/-
  The walk of the law WindowOnce.
-/
import Derived.Test.YtoembbdjpelogaaCtr
import Derived.Test.YtoembbdjpelogaaOrd
import Derived.Test.YtoembbdjpelogaaOnceP
import Derived.LoopTactic
import Derived.Outline
namespace Go.Proofs.Ytoembbdjpelogaa
open Go.RowKit Go.Maps

/-- What the walk is told of the slice of numbers that came in. -/
def IsOps (w : World) (a : Option Addr) (len : Nat) (f : Nat → Nat × Nat) : Prop :=
  len ≤ maxLen ∧ (0 < len → ∃ b off, a = some ⟨b, off, none⟩ ∧ b < w.heap.size ∧ ∀ i, i < len → w.cell? ⟨b, off + i * 2, none⟩ = some (.int .u64 (f i).1) ∧ w.cell? ⟨b, off + i * 2 + 1, none⟩ = some (.int .u64 (f i).2) ∧
    (f i).1 < 18446744073709551616 ∧ (f i).2 < 18446744073709551616)

theorem ownsMap_block {H : Type} {P : Program} {k : TypeId} {R : Value → Option (DataW H × List MemPlace)} {w w' : World} {b n : Nat} {D : DataW H} (h : w.ownsMap P k R b n D) (hb : w'.heap[b]? = w.heap[b]?) : w'.ownsMap P k R b n D := by
  obtain ⟨es, clock, he, F, hs, hD⟩ := h
  exact ⟨es, clock, hb.trans he, F, hs, hD⟩
theorem ownsMap_turn {H : Type} {P : Program} {k : TypeId} {R : Value → Option (DataW H × List MemPlace)} {w w' : World} {b c n : Nat} {o : Obj} {D : DataW H} (h : w.ownsMap P k R b n D) (hT : Turn c o w w') (hne : b ≠ c) : w'.ownsMap P k R b n D :=
  ownsMap_block h (hT.other b h.lt hne)
theorem Blk.grown {w w' : World} {b m : Nat} {o : Obj} (h : Blk w b o) (hg : w.grownBy w' (some m)) (hne : b ≠ m) : Blk w' b o := (hg.block b h.lt (by simpa using hne)).trans h
theorem below_grown {B m : Nat} {w w' wa : World} (h : Below B wa w) (hg : w.grownBy w' (some m)) (hB : B ≤ w.heap.size) (hm : B ≤ m) : Below B wa w' := h.grown hg hB (fun k hk => by injection hk with hk; omega)

theorem zero3 (w : World) : (zeroValue 3).run Try.prog w = .ok (.int .i64 0) w := by kernel_rfl

set_option maxRecDepth 100000 in
set_option maxHeartbeats 6400000 in
theorem once_core (size : Int) (a : Option Addr) (len cap : Nat) (f : Nat → Nat × Nat) (w : World) (hops : IsOps w a len f) :
    Calls Try.prog 11 #[.int .i64 size, .slice a len cap] w fun r w' => r = .returned (.bool true) ∧ Below w.heap.size w w' := by
  obtain ⟨hl, hops⟩ := hops
  unfold maxLen at hl
  obtain ⟨s, hs1, hs2, hs⟩ := size_is size
  have hmm := @run_makeMap Try.prog
  go_enter Try.func11, Try.ntmps11
  have HS := Lib.hid hs
  have HC := Lib.hid hops
  clear hs hops
  go_wp2_with fail
  rw [HS.out]
  clear HS
  refine (new_yes s _ hs1 hs2).mono ?_
  rintro r w1 ⟨rfl, rfl⟩
  have BW := Blk.new w (winObj s 0 0 0)
  have E0 : Below w.heap.size w (w.alloc (winObj s 0 0 0)) := more (Below.refl _ _) _
  have S0 : w.heap.size + 1 ≤ (w.alloc (winObj s 0 0 0)).heap.size := by simp
  revert BW E0 S0
  generalize w.alloc (winObj s 0 0 0) = W
  generalize hB : w.heap.size = B at HC ⊢
  have HB := Lib.hid hB
  clear hB
  intro BW E0 S0
  go_wp2_with fail
  refine (awake_any _).mono ?_
  rintro r w3 ⟨rfl, hb⟩
  replace E0 := E0.trans (hb.mono (by omega))
  replace S0 := Nat.le_trans S0 hb.size
  replace BW := BW.keep hb
  clear hb
  go_wp2_with fail
  have hM : B + 1 ≤ w3.heap.size := S0
  have hown : (w3.alloc (Obj.map #[] 0)).ownsMap Try.prog 75 (plainElem (H := Unit) Try.prog 3) w3.heap.size 0 (.map []) := World.ownsMap_made _ _ _ _
  replace BW := BW.old (Obj.map #[] 0)
  replace E0 := more' E0 (by omega) (Obj.map #[] 0)
  replace S0 : B + 1 ≤ (w3.alloc (Obj.map #[] 0)).heap.size := by simp; omega
  revert BW E0 S0 hown hM
  generalize w3.alloc (Obj.map #[] 0) = W4
  generalize w3.heap.size = M
  intro hM hown BW E0 S0
  have hstart : ∃ i n wb top tk : Nat, ∃ D : DataW Unit, i ≤ len ∧ (Value.int .i64 0 = Value.int .i64 (i : Nat)) ∧ (Value.int .u64 0 = Value.int .u64 (wb : Nat)) ∧ n ≤ i ∧ top ≤ 18446744073709551615 ∧ tk < 18446744073709551616 ∧ Knows D wb top tk ∧ Blk W4 B (winObj s wb top tk) ∧
      W4.ownsMap Try.prog 75 (plainElem (H := Unit) Try.prog 3) M n D ∧ Below B w W4 ∧ B + 1 ≤ W4.heap.size :=
    ⟨0, 0, 0, 0, 0, _, by omega, rfl, rfl, by omega, by omega, by omega, Knows.start, BW, hown, E0, S0⟩
  have HSTART := Lib.hid hstart
  clear hstart BW E0 S0 hown
  go_loopw [8, 10, 11, 12, 31] (fun h _ _ _ c wr => ∃ i n wb top tk : Nat, ∃ D : DataW Unit, i ≤ len ∧ c = .int .i64 (i : Nat) ∧ h = .int .u64 (wb : Nat) ∧ n ≤ i ∧ top ≤ 18446744073709551615 ∧ tk < 18446744073709551616 ∧ Knows D wb top tk ∧ Blk wr B (winObj s wb top tk) ∧
      wr.ownsMap Try.prog 75 (plainElem (H := Unit) Try.prog 3) M n D ∧ Below B w wr ∧ B + 1 ≤ wr.heap.size)
    (fun _ _ _ _ c _ => len - (intOf c).toNat)
  case atStart => exact HSTART.out
  case round =>
    obtain ⟨i, n, wb, top, tk, D, hi, rfl, rfl, hn, htop, htk, hkn, BW, hown, E0, S0⟩ := hrel
    have HKN := Lib.hid hkn
    have HOWN := Lib.hid hown
    clear hkn hown
    by_cases hlt : i < len
    · obtain ⟨b, off, rfl, hbB, hc⟩ := HC.out (by omega)
      obtain ⟨hc1, hc2, hbt, hct⟩ := hc i hlt
      have hd1 := (E0.cell (p := ⟨b, off + i * 2, none⟩) hbB).trans hc1
      have hd2 := (E0.cell (p := ⟨b, off + i * 2 + 1, none⟩) hbB).trans hc2
      clear hc hc1 hc2
      generalize (f i).1 = bt at hd1 hd2 hbt hct
      generalize (f i).2 = ct at hd1 hd2 hbt hct
      go_wp2_with fail
      have hM2 := HOWN.out.lt
      have BW1 := BW.old (.cells #[.int .u64 bt, .int .u64 ct] 75)
      have BO1 := Blk.new wr (.cells #[.int .u64 bt, .int .u64 ct] 75)
      have E1 := more' E0 (by omega) (.cells #[.int .u64 bt, .int .u64 ct] 75)
      have S1 : B + 1 ≤ (wr.alloc (.cells #[.int .u64 bt, .int .u64 ct] 75)).heap.size := by simp; omega
      have hO1 : M < wr.heap.size := hM2
      have HOWN1 := Lib.hid (HOWN.out.alloc (.cells #[.int .u64 bt, .int .u64 ct] 75))
      have hO2 : B + 1 ≤ wr.heap.size := S0
      clear BW E0 S0 HOWN hd1 hd2 hM2
      revert BW1 BO1 E1 S1 HOWN1 hO1 hO2
      generalize wr.alloc (.cells #[.int .u64 bt, .int .u64 ct] 75) = wa
      generalize wr.heap.size = O
      intro BW1 BO1 E1 S1 hO1 HOWN1 hO2
      refine (fresh_any B s wb top tk bt ct _ BW1 hs2 htop htk).mono ?_
      rintro r w5 ⟨rfl, rfl⟩
      obtain ⟨c0, c1, -⟩ := BO1.two
      go_wp2_with fail
      refine (take_any B s wb top tk bt ct _ BW1 hs2 htop htk (by omega)).mono ?_
      rintro r w6 ⟨rfl, hT⟩
      have E2 := E1.trans (hT.below (Nat.le_refl _) (by omega))
      have S2 := Nat.le_trans S1 hT.size
      have BO2 := hT.keep BO1 (by omega)
      have HOWN2 := Lib.hid (ownsMap_turn HOWN1.out hT (by omega))
      have BW2 := hT.blk
      clear c0 c1 hT BO1 HOWN1 BW1 E1 S1
      obtain ⟨c0, c1, -⟩ := BO2.two
      by_cases hf : freshN s wb top tk bt ct = true
      · obtain ⟨f1, f2, f3⟩ := fresh_ne hf
        have hr := take_ok f1 f2 hf
        have HKN2 := Lib.hid (HKN.out.step hbt hct hr f3)
        have hTB : takeB s wb top tk bt ct = bt := by simp [takeB, hr]
        have htop2 := takeT_lt (size := s) (wb := wb) (tk := tk) (boot := bt) htop hct
        have htk2 := takeK_lt (size := s) (wb := wb) (top := top) (boot := bt) (count := ct) hs2 htk
        rw [hTB] at HKN2 BW2
        rw [hf, hr]
        have HF := Lib.hid hf
        have t3 : (wb : Int) ≤ (bt : Int) := by omega
        clear hf hr hTB f1 f2 f3
        have HK2 := HKN2
        generalize takeT s wb top tk bt ct = top2 at HKN2 BW2 htop2
        generalize takeK s wb top tk bt ct = tk2 at HKN2 BW2 htk2
        clear HK2
        go_wp2_with (first
          | (at_lookup; refine wpList_lookup_own_int _ rfl _ _ 91 rfl 75 3 .i64 law75 Try.underlying91 Try.underlying3 (zero3 _) M n D rfl HOWN2.out _ _ rfl (opKey_of hbt hct) ?_; intro c hat hwc; obtain rfl : c = 0 := HKN.out.fresh hs2 hbt hct HF.out hat; clear hat hwc)
          | (at_mapUpdate; refine wpList_mapUpdate_own _ rfl _ _ _ 91 rfl 75 3 law75 Try.underlying91 _ M n D rfl HOWN2.out (by unfold maxLen; omega) _ _ _ rfl rfl (opKey_of hbt hct) _ [] (plainElem_int Try.underlying3 (by decide)) ?_; intro w7 hown7 hgrow7; obtain ⟨e0, e1, -⟩ := (BO2.grown hgrow7 (by omega)).two; have HOWN7 := Lib.hid hown7; have HG := Lib.hid hgrow7; clear hown7 hgrow7))
        have hmax : Value.int .u64 (if wb < bt then (bt : Int) else (wb : Int)) = Value.int .u64 (bt : Nat) := by
          split
          · rfl
          · rw [show wb = bt by omega]
        exact ⟨⟨i + 1, n + 1, bt, top2, tk2, _, by omega, by go_num, hmax, by omega, htop2, htk2, HKN2.out, BW2.grown HG.out (by omega), HOWN7.out, below_grown E2 HG.out (by omega) (by omega), Nat.le_trans S2 HG.out.size⟩, by simp [intOf]; omega⟩
      · have hf' : freshN s wb top tk bt ct = false := by simpa using hf
        have hst := take_stale hf'
        obtain ⟨a1, a2, a3⟩ := take_same hf'
        rw [a1, a2, a3] at BW2
        rw [hf']
        have HKN' := HKN
        clear hf hf' a1 a2 a3
        go_wp2_with fail
        exact ⟨⟨i + 1, n, wb, top, tk, D, by omega, by go_num, rfl, by omega, htop, htk, HKN.out, BW2, HOWN2.out, E2, S2⟩, by simp [intOf]; omega⟩
    · go_wp2_with fail
      go_ret
      exact ⟨rfl, by rw [HB.out]; exact E0⟩

theorem windowOnce_walk (size : Int) (a : Option Addr) (len cap : Nat) (f : Nat → Nat × Nat) (w : World) (_ : (Lit.int .i64 size).wf = true) (hops : IsOps w a len f) :
    Calls Try.prog 11 #[.int .i64 size, .slice a len cap] w fun r w' => r = .returned (.bool true) ∧ Below w.heap.size w w' := once_core size a len cap f w hops
end Go.Proofs.Ytoembbdjpelogaa
