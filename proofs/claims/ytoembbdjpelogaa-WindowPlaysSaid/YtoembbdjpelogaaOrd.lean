/-
  The walk of the law WindowOrders.
-/
import Derived.Test.YtoembbdjpelogaaCtr
import Derived.Test.YtoembbdjpelogaaOrdP
import Derived.LoopTactic
import Derived.Deep.AppendLies
namespace Go.Proofs.Ytoembbdjpelogaa
open Go.RowKit

/-- The slice of the number that waits. -/
def Waits (w : World) (B bw bc : Nat) (v : Value) : Option Nat → Prop
  | none => v = .slice none 0 0
  | some x => ∃ g cap, v = .slice (some ⟨g, 0, none⟩) 1 cap ∧ w.cell? ⟨g, 0, none⟩ = some (.int .u64 x) ∧ g ≠ bw ∧ g ≠ bc ∧ B ≤ g
theorem Turn.cell {b : Nat} {o : Obj} {w w' : World} (h : Turn b o w w') {g i : Nat} {v : Value} (hne : g ≠ b) (hc : w.cell? ⟨g, i, none⟩ = some v) : w'.cell? ⟨g, i, none⟩ = some v :=
  (World.cell?_of_block (h.other g (World.block_lt_of_cell? w _ hc) hne)).trans hc
theorem more' {B : Nat} {w wa : World} (h : Below B w wa) (hs : B ≤ wa.heap.size) (o : Obj) : Below B w (wa.alloc o) := h.alloc hs o

/-- What the walk is told of the slice of integers that came in: where it has elements, it leads to cells that hold them. -/
def IsRow (k : IntKind) (w : World) (a : Option Addr) (len : Nat) (zs : List Int) : Prop :=
  len ≤ maxLen ∧ (0 < len → ∃ b off, a = some ⟨b, off, none⟩ ∧ b < w.heap.size ∧ ∀ i, i < len → w.cell? ⟨b, off + i, none⟩ = some (.int k (zs.getD i 0)))

set_option maxRecDepth 100000 in
set_option maxHeartbeats 6400000 in
theorem ord_core (size : Int) (boot sk : Nat) (a : Option Addr) (len cap : Nat) (zs : List Int) (w : World) (h0 : boot ≠ 0) (hsk : sk ≤ 4294967295) (hrow : IsRow .i64 w a len zs) :
    Calls Try.prog 12 #[.int .i64 size, .int .u64 boot, .int .u32 sk, .slice a len cap] w fun r w' => r = .returned (.bool true) ∧ Below w.heap.size w w' := by
  obtain ⟨hl, hrow⟩ := hrow
  unfold maxLen at hl
  have t0 : ((boot : Int) == 0) = false := by simp [h0]
  obtain ⟨s, hs1, hs2, hs⟩ := size_is size
  go_enter Try.func12, Try.ntmps12
  have HS := Lib.hid hs
  have HC := Lib.hid hrow
  clear hs hrow
  go_wp2_with fail
  rw [HS.out]
  clear HS
  refine (new_yes s _ hs1 hs2).mono ?_
  rintro r w1 ⟨rfl, rfl⟩
  go_wp2_with fail
  refine (begin_yes boot _ h0).mono ?_
  rintro r w1 ⟨rfl, rfl⟩
  have BW : Blk ((w.alloc (winObj s 0 0 0)).alloc (ctrObj boot 0)) w.heap.size (winObj s 0 0 0) := (Blk.new _ _).old _
  have BC : Blk ((w.alloc (winObj s 0 0 0)).alloc (ctrObj boot 0)) (w.heap.size + 1) (ctrObj boot 0) := Blk.newAt _ (by simp)
  have E0 : Below w.heap.size w ((w.alloc (winObj s 0 0 0)).alloc (ctrObj boot 0)) := more (more (Below.refl _ _) _) _
  have S0 : w.heap.size + 2 ≤ ((w.alloc (winObj s 0 0 0)).alloc (ctrObj boot 0)).heap.size := by simp
  revert BW BC E0 S0
  rw [show (w.alloc (winObj s 0 0 0)).heap.size = w.heap.size + 1 from by simp]
  generalize (w.alloc (winObj s 0 0 0)).alloc (ctrObj boot 0) = W
  generalize hB : w.heap.size = B at HC ⊢
  have HB := Lib.hid hB
  clear hB
  intro BW BC E0 S0
  go_wp2_with fail
  refine (awake_any _).mono ?_
  rintro r w3 ⟨rfl, hb⟩
  replace E0 := E0.trans (hb.mono (by omega))
  replace S0 := Nat.le_trans S0 hb.size
  replace BW := BW.keep hb
  replace BC := BC.keep hb
  clear hb
  go_wp2_with fail
  refine (skip_yes (B + 1) boot 0 sk _ BC (Nat.zero_le _)).mono ?_
  rintro r w4 ⟨rfl, hT⟩
  replace E0 := E0.trans (hT.below (Nat.le_succ _) (by omega))
  replace S0 := Nat.le_trans S0 hT.size
  replace BW := hT.keep BW (by omega)
  replace BC := hT.blk
  clear hT
  go_wp2_with fail
  have hstart : ∃ i wb top tk : Nat, ∃ q : Option Nat, i ≤ 60 ∧ (Value.int .i64 0 = Value.int .i64 (i : Nat)) ∧ OrdInv s boot (sk + i) wb top tk q ∧ Blk w4 B (winObj s wb top tk) ∧ Blk w4 (B + 1) (ctrObj boot (sk + i)) ∧ Waits w4 (B + 2) B (B + 1) (.slice none 0 0) q ∧ Below B w w4 ∧ B + 2 ≤ w4.heap.size :=
    ⟨0, 0, 0, 0, none, by omega, rfl, OrdInv.start _ _ _, BW, BC, rfl, E0, S0⟩
  have HSTART := Lib.hid hstart
  clear hstart BW BC E0 S0
  go_loopw [13, 14, 15, 16, 17, 61] (fun v _ _ _ _ c wr => ∃ i wb top tk : Nat, ∃ q : Option Nat, i ≤ 60 ∧ c = .int .i64 (i : Nat) ∧ OrdInv s boot (sk + i) wb top tk q ∧ Blk wr B (winObj s wb top tk) ∧ Blk wr (B + 1) (ctrObj boot (sk + i)) ∧ Waits wr (B + 2) B (B + 1) v q ∧ Below B w wr ∧ B + 2 ≤ wr.heap.size)
    (fun _ _ _ _ _ c _ => 60 - (intOf c).toNat)
  case atStart => exact HSTART.out
  case round =>
    obtain ⟨i, wb, top, tk, q, hi, rfl, hinv, BW, BC, hW, E0, S0⟩ := hrel
    by_cases hlt : i < 60
    · have hn : sk + i < 18446744073709551615 := by omega
      have HINV := Lib.hid hinv
      clear hinv
      have htop : top ≤ 18446744073709551615 := by rcases HINV.out.is with h | h <;> omega
      have htk : tk < 18446744073709551616 := HINV.out.tk_lt
      have hcast : ((sk : Int) + (i : Int) + 1) = ((sk + i + 1 : Nat) : Int) := by omega
      have HCAST := Lib.hid hcast
      clear hcast
      by_cases h1 : i < len
      · obtain ⟨b, off, rfl, hbB, hc⟩ := HC.out (by omega)
        obtain ⟨z, HZ⟩ : ∃ z, Hid (∀ wx, Below B w wx → wx.cell? ⟨b, off + i, none⟩ = some (.int .i64 z)) := ⟨zs.getD i 0, fun wx h => (h.cell (p := ⟨b, off + i, none⟩) hbB).trans (hc i h1)⟩
        clear hc
        cases q with
        | none =>
          obtain rfl : _ = _ := hW
          by_cases h2 : z.tmod 2 = 0
          · have h2' : (z.tmod 2 != 0) = false := by simpa using h2
            clear h2
            go_wp2_with fail
            refine (next_yes (B + 1) boot (sk + i) _ BC hn).mono ?_
            rintro r w5 ⟨rfl, hT⟩
            replace E0 := E0.trans (hT.below (Nat.le_succ _) (by omega))
            replace S0 := Nat.le_trans S0 hT.size
            replace BW := hT.keep BW (by omega)
            replace BC := hT.blk

            clear hT
            have hcell := HZ.out w5 E0
            go_wp2_with fail
            rw [HCAST.out]
            refine (take_any B s wb top tk boot (sk + i + 1) _ BW hs2 htop htk (by omega)).mono ?_
            rintro r w6 ⟨rfl, hT⟩
            obtain ⟨q1, q2, q3, k, q4, q5, q6, q7⟩ := HINV.out.taken h0
            rw [q1]
            replace hT := hT.win q2 q3 q4
            replace E0 := E0.trans (hT.below (Nat.le_refl _) (by omega))
            replace S0 := Nat.le_trans S0 hT.size
            replace BC := hT.keep BC (by omega)
            replace BW := hT.blk

            clear hT q1 q2 q3 q4
            have Q5 := Lib.hid q5
            have Q6 := Lib.hid q6
            have Q7 := Lib.hid q7
            clear q5 q6 q7
            go_wp2_with fail
            rw [HCAST.out]
            refine (take_any B s boot (sk + i + 1) k boot (sk + i + 1) _ BW hs2 (by omega) Q5.out (by omega)).mono ?_
            rintro r w7 ⟨rfl, hT⟩
            have r2 := take_again (size := s) (wb := boot) (top := sk + i + 1) (tk := k) h0 (Nat.succ_ne_zero _) (after_take (size := s) h0 Q6.out)
            rw [r2]
            obtain ⟨a1, a2, a3⟩ := again_keeps r2
            replace hT := hT.win a1 a2 a3
            replace E0 := E0.trans (hT.below (Nat.le_refl _) (by omega))
            replace S0 := Nat.le_trans S0 hT.size
            replace BC := hT.keep BC (by omega)
            replace BW := hT.blk

            clear hT r2 a1 a2 a3
            go_wp2_with fail
            exact ⟨⟨i + 1, boot, sk + i + 1, k, none, by omega, by go_num, OrdInv.goes (n := sk + i) Q5.out, BW, BC, rfl, E0, S0⟩, by simp [intOf]; omega⟩
          · by_cases h3 : 3 < s
            · -- it waits
              have h2' : (z.tmod 2 != 0) = true := by simpa using h2
              clear h2
              go_wp2_with fail
              refine (next_yes (B + 1) boot (sk + i) _ BC hn).mono ?_
              rintro r w5 ⟨rfl, hT⟩
              replace E0 := E0.trans (hT.below (Nat.le_succ _) (by omega))
              replace S0 := Nat.le_trans S0 hT.size
              replace BW := hT.keep BW (by omega)
              have hcell := HZ.out w5 E0
              replace BC := hT.blk
              clear hT
              go_wp2_with fail
              refine ⟨⟨i + 1, wb, top, tk, some (sk + i + 1), by omega, by go_num, HINV.out.waits h3, ((BW.old _).old _).draw, ((BC.old _).old _).draw, ⟨w5.heap.size + 1, _, rfl, ?_, by omega, by omega, by omega⟩, (more' (more' E0 (by omega) _) (by simp; omega) _).drew, by simp; omega⟩, by simp [intOf]; omega⟩
              exact ((Blk.newAt _ (by simp)).draw.cell 0).trans (by rw [Array.getElem?_append_left (by simp)]; simp)
            · have h2' : (z.tmod 2 != 0) = true := by simpa using h2
              clear h2
              go_wp2_with fail
              refine (next_yes (B + 1) boot (sk + i) _ BC hn).mono ?_
              rintro r w5 ⟨rfl, hT⟩
              replace E0 := E0.trans (hT.below (Nat.le_succ _) (by omega))
              replace S0 := Nat.le_trans S0 hT.size
              replace BW := hT.keep BW (by omega)
              replace BC := hT.blk

              clear hT
              have hcell := HZ.out w5 E0
              go_wp2_with fail
              rw [HCAST.out]
              refine (take_any B s wb top tk boot (sk + i + 1) _ BW hs2 htop htk (by omega)).mono ?_
              rintro r w6 ⟨rfl, hT⟩
              obtain ⟨q1, q2, q3, k, q4, q5, q6, q7⟩ := HINV.out.taken h0
              rw [q1]
              replace hT := hT.win q2 q3 q4
              replace E0 := E0.trans (hT.below (Nat.le_refl _) (by omega))
              replace S0 := Nat.le_trans S0 hT.size
              replace BC := hT.keep BC (by omega)
              replace BW := hT.blk

              clear hT q1 q2 q3 q4
              have Q5 := Lib.hid q5
              have Q6 := Lib.hid q6
              have Q7 := Lib.hid q7
              clear q5 q6 q7
              go_wp2_with fail
              rw [HCAST.out]
              refine (take_any B s boot (sk + i + 1) k boot (sk + i + 1) _ BW hs2 (by omega) Q5.out (by omega)).mono ?_
              rintro r w7 ⟨rfl, hT⟩
              have r2 := take_again (size := s) (wb := boot) (top := sk + i + 1) (tk := k) h0 (Nat.succ_ne_zero _) (after_take (size := s) h0 Q6.out)
              rw [r2]
              obtain ⟨a1, a2, a3⟩ := again_keeps r2
              replace hT := hT.win a1 a2 a3
              replace E0 := E0.trans (hT.below (Nat.le_refl _) (by omega))
              replace S0 := Nat.le_trans S0 hT.size
              replace BC := hT.keep BC (by omega)
              replace BW := hT.blk

              clear hT r2 a1 a2 a3
              go_wp2_with fail
              exact ⟨⟨i + 1, boot, sk + i + 1, k, none, by omega, by go_num, OrdInv.goes (n := sk + i) Q5.out, BW, BC, rfl, E0, S0⟩, by simp [intOf]; omega⟩
        | some x =>
          obtain ⟨g, gc, rfl, hcg, hg1, hg2, hg3⟩ := hW
          obtain ⟨hx0, hx1, hx2, hx3, -⟩ := HINV.out.wait x rfl
          by_cases h2 : z.tmod 2 = 0
          · have h2' : (z.tmod 2 != 0) = false := by simpa using h2
            clear h2
            go_wp2_with fail
            refine (next_yes (B + 1) boot (sk + i) _ BC hn).mono ?_
            rintro r w5 ⟨rfl, hT⟩
            replace E0 := E0.trans (hT.below (Nat.le_succ _) (by omega))
            replace S0 := Nat.le_trans S0 hT.size
            replace BW := hT.keep BW (by omega)
            replace BC := hT.blk
            replace hcg := hT.cell (by omega) hcg
            clear hT
            have hcell := HZ.out w5 E0
            go_wp2_with fail
            rw [HCAST.out]
            refine (take_any B s wb top tk boot (sk + i + 1) _ BW hs2 htop htk (by omega)).mono ?_
            rintro r w6 ⟨rfl, hT⟩
            obtain ⟨q1, q2, q3, k, q4, q5, q6, q7⟩ := HINV.out.taken h0
            rw [q1]
            replace hT := hT.win q2 q3 q4
            replace E0 := E0.trans (hT.below (Nat.le_refl _) (by omega))
            replace S0 := Nat.le_trans S0 hT.size
            replace BC := hT.keep BC (by omega)
            replace BW := hT.blk
            replace hcg := hT.cell (by omega) hcg
            clear hT q1 q2 q3 q4
            have Q5 := Lib.hid q5
            have Q6 := Lib.hid q6
            have Q7 := Lib.hid q7
            clear q5 q6 q7
            go_wp2_with fail
            rw [HCAST.out]
            refine (take_any B s boot (sk + i + 1) k boot (sk + i + 1) _ BW hs2 (by omega) Q5.out (by omega)).mono ?_
            rintro r w7 ⟨rfl, hT⟩
            have r2 := take_again (size := s) (wb := boot) (top := sk + i + 1) (tk := k) h0 (Nat.succ_ne_zero _) (after_take (size := s) h0 Q6.out)
            rw [r2]
            obtain ⟨a1, a2, a3⟩ := again_keeps r2
            replace hT := hT.win a1 a2 a3
            replace E0 := E0.trans (hT.below (Nat.le_refl _) (by omega))
            replace S0 := Nat.le_trans S0 hT.size
            replace BC := hT.keep BC (by omega)
            replace BW := hT.blk
            replace hcg := hT.cell (by omega) hcg
            clear hT r2 a1 a2 a3
            by_cases hd : x + 2 ≤ sk + i + 1
            · have hd' : (x : Int) + 2 ≤ (sk : Int) + i + 1 := by omega
              have hx' : (x : Int) ≤ (sk : Int) + i + 1 := by omega
              go_wp2_with fail
              refine (take_any B s boot (sk + i + 1) k boot x _ BW hs2 (by omega) Q5.out (by omega)).mono ?_
              rintro r w8 ⟨rfl, hT⟩
              have r3 := take_ok (size := s) (wb := boot) (top := sk + i + 1) (tk := k) (boot := boot) (count := x) h0 (by omega) (late_fresh h0 hx1 hx2 hx3 hx0 (Q7.out x rfl))
              rw [r3]
              obtain ⟨a1, a2, a3⟩ := late_taken hx2 r3
              replace hT := hT.win a1 a2 a3
              replace E0 := E0.trans (hT.below (Nat.le_refl _) (by omega))
              replace S0 := Nat.le_trans S0 hT.size
              replace BC := hT.keep BC (by omega)
              replace BW := hT.blk
              replace hcg := hT.cell (by omega) hcg
              clear hT r3 a1 a2 a3
              go_wp2_with fail
              refine (fresh_any B s boot (sk + i + 1) (k ||| 2 ^ (sk + i + 1 - x)) boot x _ BW hs2 (by omega) (or_lt Q5.out (pow_lt (by omega)))).mono ?_
              rintro r w9 ⟨rfl, rfl⟩
              rw [late_after hx2]
              go_wp2_with fail
              exact ⟨⟨i + 1, boot, sk + i + 1, _, none, by omega, by go_num, OrdInv.goesLate (n := sk + i) Q5.out hx2 hx3, BW, BC, rfl, E0, S0⟩, by simp [intOf]; omega⟩
            · have hd' : (sk : Int) + i + 1 < (x : Int) + 2 := by omega
              have hx' : (x : Int) ≤ (sk : Int) + i + 1 := by omega
              go_wp2_with fail
              exact ⟨⟨i + 1, boot, sk + i + 1, k, some x, by omega, by go_num, OrdInv.still (n := sk + i) Q5.out hx0 hx1 hx2 (by omega) (Q7.out x rfl), BW, BC, ⟨g, gc, rfl, hcg, hg1, hg2, hg3⟩, E0, S0⟩, by simp [intOf]; omega⟩
          · have h2' : (z.tmod 2 != 0) = true := by simpa using h2
            clear h2
            go_wp2_with fail
            refine (next_yes (B + 1) boot (sk + i) _ BC hn).mono ?_
            rintro r w5 ⟨rfl, hT⟩
            replace E0 := E0.trans (hT.below (Nat.le_succ _) (by omega))
            replace S0 := Nat.le_trans S0 hT.size
            replace BW := hT.keep BW (by omega)
            replace BC := hT.blk
            replace hcg := hT.cell (by omega) hcg
            clear hT
            have hcell := HZ.out w5 E0
            go_wp2_with fail
            rw [HCAST.out]
            refine (take_any B s wb top tk boot (sk + i + 1) _ BW hs2 htop htk (by omega)).mono ?_
            rintro r w6 ⟨rfl, hT⟩
            obtain ⟨q1, q2, q3, k, q4, q5, q6, q7⟩ := HINV.out.taken h0
            rw [q1]
            replace hT := hT.win q2 q3 q4
            replace E0 := E0.trans (hT.below (Nat.le_refl _) (by omega))
            replace S0 := Nat.le_trans S0 hT.size
            replace BC := hT.keep BC (by omega)
            replace BW := hT.blk
            replace hcg := hT.cell (by omega) hcg
            clear hT q1 q2 q3 q4
            have Q5 := Lib.hid q5
            have Q6 := Lib.hid q6
            have Q7 := Lib.hid q7
            clear q5 q6 q7
            go_wp2_with fail
            rw [HCAST.out]
            refine (take_any B s boot (sk + i + 1) k boot (sk + i + 1) _ BW hs2 (by omega) Q5.out (by omega)).mono ?_
            rintro r w7 ⟨rfl, hT⟩
            have r2 := take_again (size := s) (wb := boot) (top := sk + i + 1) (tk := k) h0 (Nat.succ_ne_zero _) (after_take (size := s) h0 Q6.out)
            rw [r2]
            obtain ⟨a1, a2, a3⟩ := again_keeps r2
            replace hT := hT.win a1 a2 a3
            replace E0 := E0.trans (hT.below (Nat.le_refl _) (by omega))
            replace S0 := Nat.le_trans S0 hT.size
            replace BC := hT.keep BC (by omega)
            replace BW := hT.blk
            replace hcg := hT.cell (by omega) hcg
            clear hT r2 a1 a2 a3
            by_cases hd : x + 2 ≤ sk + i + 1
            · have hd' : (x : Int) + 2 ≤ (sk : Int) + i + 1 := by omega
              have hx' : (x : Int) ≤ (sk : Int) + i + 1 := by omega
              go_wp2_with fail
              refine (take_any B s boot (sk + i + 1) k boot x _ BW hs2 (by omega) Q5.out (by omega)).mono ?_
              rintro r w8 ⟨rfl, hT⟩
              have r3 := take_ok (size := s) (wb := boot) (top := sk + i + 1) (tk := k) (boot := boot) (count := x) h0 (by omega) (late_fresh h0 hx1 hx2 hx3 hx0 (Q7.out x rfl))
              rw [r3]
              obtain ⟨a1, a2, a3⟩ := late_taken hx2 r3
              replace hT := hT.win a1 a2 a3
              replace E0 := E0.trans (hT.below (Nat.le_refl _) (by omega))
              replace S0 := Nat.le_trans S0 hT.size
              replace BC := hT.keep BC (by omega)
              replace BW := hT.blk
              replace hcg := hT.cell (by omega) hcg
              clear hT r3 a1 a2 a3
              go_wp2_with fail
              refine (fresh_any B s boot (sk + i + 1) (k ||| 2 ^ (sk + i + 1 - x)) boot x _ BW hs2 (by omega) (or_lt Q5.out (pow_lt (by omega)))).mono ?_
              rintro r w9 ⟨rfl, rfl⟩
              rw [late_after hx2]
              go_wp2_with fail
              exact ⟨⟨i + 1, boot, sk + i + 1, _, none, by omega, by go_num, OrdInv.goesLate (n := sk + i) Q5.out hx2 hx3, BW, BC, rfl, E0, S0⟩, by simp [intOf]; omega⟩
            · have hd' : (sk : Int) + i + 1 < (x : Int) + 2 := by omega
              have hx' : (x : Int) ≤ (sk : Int) + i + 1 := by omega
              go_wp2_with fail
              exact ⟨⟨i + 1, boot, sk + i + 1, k, some x, by omega, by go_num, OrdInv.still (n := sk + i) Q5.out hx0 hx1 hx2 (by omega) (Q7.out x rfl), BW, BC, ⟨g, gc, rfl, hcg, hg1, hg2, hg3⟩, E0, S0⟩, by simp [intOf]; omega⟩
      · have h1' : (len : Int) ≤ (i : Int) := by omega
        cases q with
        | none =>
          obtain rfl : _ = _ := hW
          go_wp2_with fail
          refine (next_yes (B + 1) boot (sk + i) _ BC hn).mono ?_
          rintro r w5 ⟨rfl, hT⟩
          replace E0 := E0.trans (hT.below (Nat.le_succ _) (by omega))
          replace S0 := Nat.le_trans S0 hT.size
          replace BW := hT.keep BW (by omega)
          replace BC := hT.blk

          clear hT

          go_wp2_with fail
          rw [HCAST.out]
          refine (take_any B s wb top tk boot (sk + i + 1) _ BW hs2 htop htk (by omega)).mono ?_
          rintro r w6 ⟨rfl, hT⟩
          obtain ⟨q1, q2, q3, k, q4, q5, q6, q7⟩ := HINV.out.taken h0
          rw [q1]
          replace hT := hT.win q2 q3 q4
          replace E0 := E0.trans (hT.below (Nat.le_refl _) (by omega))
          replace S0 := Nat.le_trans S0 hT.size
          replace BC := hT.keep BC (by omega)
          replace BW := hT.blk

          clear hT q1 q2 q3 q4
          have Q5 := Lib.hid q5
          have Q6 := Lib.hid q6
          have Q7 := Lib.hid q7
          clear q5 q6 q7
          go_wp2_with fail
          rw [HCAST.out]
          refine (take_any B s boot (sk + i + 1) k boot (sk + i + 1) _ BW hs2 (by omega) Q5.out (by omega)).mono ?_
          rintro r w7 ⟨rfl, hT⟩
          have r2 := take_again (size := s) (wb := boot) (top := sk + i + 1) (tk := k) h0 (Nat.succ_ne_zero _) (after_take (size := s) h0 Q6.out)
          rw [r2]
          obtain ⟨a1, a2, a3⟩ := again_keeps r2
          replace hT := hT.win a1 a2 a3
          replace E0 := E0.trans (hT.below (Nat.le_refl _) (by omega))
          replace S0 := Nat.le_trans S0 hT.size
          replace BC := hT.keep BC (by omega)
          replace BW := hT.blk

          clear hT r2 a1 a2 a3
          go_wp2_with fail
          exact ⟨⟨i + 1, boot, sk + i + 1, k, none, by omega, by go_num, OrdInv.goes (n := sk + i) Q5.out, BW, BC, rfl, E0, S0⟩, by simp [intOf]; omega⟩
        | some x =>
          obtain ⟨g, gc, rfl, hcg, hg1, hg2, hg3⟩ := hW
          obtain ⟨hx0, hx1, hx2, hx3, -⟩ := HINV.out.wait x rfl
          go_wp2_with fail
          refine (next_yes (B + 1) boot (sk + i) _ BC hn).mono ?_
          rintro r w5 ⟨rfl, hT⟩
          replace E0 := E0.trans (hT.below (Nat.le_succ _) (by omega))
          replace S0 := Nat.le_trans S0 hT.size
          replace BW := hT.keep BW (by omega)
          replace BC := hT.blk
          replace hcg := hT.cell (by omega) hcg
          clear hT

          go_wp2_with fail
          rw [HCAST.out]
          refine (take_any B s wb top tk boot (sk + i + 1) _ BW hs2 htop htk (by omega)).mono ?_
          rintro r w6 ⟨rfl, hT⟩
          obtain ⟨q1, q2, q3, k, q4, q5, q6, q7⟩ := HINV.out.taken h0
          rw [q1]
          replace hT := hT.win q2 q3 q4
          replace E0 := E0.trans (hT.below (Nat.le_refl _) (by omega))
          replace S0 := Nat.le_trans S0 hT.size
          replace BC := hT.keep BC (by omega)
          replace BW := hT.blk
          replace hcg := hT.cell (by omega) hcg
          clear hT q1 q2 q3 q4
          have Q5 := Lib.hid q5
          have Q6 := Lib.hid q6
          have Q7 := Lib.hid q7
          clear q5 q6 q7
          go_wp2_with fail
          rw [HCAST.out]
          refine (take_any B s boot (sk + i + 1) k boot (sk + i + 1) _ BW hs2 (by omega) Q5.out (by omega)).mono ?_
          rintro r w7 ⟨rfl, hT⟩
          have r2 := take_again (size := s) (wb := boot) (top := sk + i + 1) (tk := k) h0 (Nat.succ_ne_zero _) (after_take (size := s) h0 Q6.out)
          rw [r2]
          obtain ⟨a1, a2, a3⟩ := again_keeps r2
          replace hT := hT.win a1 a2 a3
          replace E0 := E0.trans (hT.below (Nat.le_refl _) (by omega))
          replace S0 := Nat.le_trans S0 hT.size
          replace BC := hT.keep BC (by omega)
          replace BW := hT.blk
          replace hcg := hT.cell (by omega) hcg
          clear hT r2 a1 a2 a3
          by_cases hd : x + 2 ≤ sk + i + 1
          · have hd' : (x : Int) + 2 ≤ (sk : Int) + i + 1 := by omega
            have hx' : (x : Int) ≤ (sk : Int) + i + 1 := by omega
            go_wp2_with fail
            refine (take_any B s boot (sk + i + 1) k boot x _ BW hs2 (by omega) Q5.out (by omega)).mono ?_
            rintro r w8 ⟨rfl, hT⟩
            have r3 := take_ok (size := s) (wb := boot) (top := sk + i + 1) (tk := k) (boot := boot) (count := x) h0 (by omega) (late_fresh h0 hx1 hx2 hx3 hx0 (Q7.out x rfl))
            rw [r3]
            obtain ⟨a1, a2, a3⟩ := late_taken hx2 r3
            replace hT := hT.win a1 a2 a3
            replace E0 := E0.trans (hT.below (Nat.le_refl _) (by omega))
            replace S0 := Nat.le_trans S0 hT.size
            replace BC := hT.keep BC (by omega)
            replace BW := hT.blk
            replace hcg := hT.cell (by omega) hcg
            clear hT r3 a1 a2 a3
            go_wp2_with fail
            refine (fresh_any B s boot (sk + i + 1) (k ||| 2 ^ (sk + i + 1 - x)) boot x _ BW hs2 (by omega) (or_lt Q5.out (pow_lt (by omega)))).mono ?_
            rintro r w9 ⟨rfl, rfl⟩
            rw [late_after hx2]
            go_wp2_with fail
            exact ⟨⟨i + 1, boot, sk + i + 1, _, none, by omega, by go_num, OrdInv.goesLate (n := sk + i) Q5.out hx2 hx3, BW, BC, rfl, E0, S0⟩, by simp [intOf]; omega⟩
          · have hd' : (sk : Int) + i + 1 < (x : Int) + 2 := by omega
            have hx' : (x : Int) ≤ (sk : Int) + i + 1 := by omega
            go_wp2_with fail
            exact ⟨⟨i + 1, boot, sk + i + 1, k, some x, by omega, by go_num, OrdInv.still (n := sk + i) Q5.out hx0 hx1 hx2 (by omega) (Q7.out x rfl), BW, BC, ⟨g, gc, rfl, hcg, hg1, hg2, hg3⟩, E0, S0⟩, by simp [intOf]; omega⟩
    · go_wp2_with fail
      go_ret
      exact ⟨rfl, by rw [HB.out]; exact E0⟩

set_option maxRecDepth 100000 in
set_option maxHeartbeats 800000 in
theorem ord_zero (size : Int) (sk : Int) (a : Option Addr) (len cap : Nat) (w : World) :
    Calls Try.prog 12 #[.int .i64 size, .int .u64 0, .int .u32 sk, .slice a len cap] w fun r w' => r = .returned (.bool true) ∧ Below w.heap.size w w' := by
  obtain ⟨s, hs1, hs2, hs⟩ := size_is size
  go_enter Try.func12, Try.ntmps12
  have HS := Lib.hid hs
  clear hs
  go_wp2_with fail
  rw [HS.out]
  clear HS
  refine (new_yes s _ hs1 hs2).mono ?_
  rintro r w1 ⟨rfl, rfl⟩
  go_wp2_with fail
  refine (begin_no _).mono ?_
  rintro r w1 ⟨rfl, rfl⟩
  go_wp2_with fail
  refine (awake_any _).mono ?_
  rintro r w3 ⟨rfl, hb⟩
  obtain ⟨hb', -, -⟩ := after_one hb
  go_wp2_with fail
  go_ret
  exact ⟨rfl, hb'⟩

theorem windowOrders_walk (size boot sk : Int) (a : Option Addr) (len cap : Nat) (zs : List Int) (w : World) (_ : (Lit.int .i64 size).wf = true) (wb : (Lit.int .u64 boot).wf = true) (ws : (Lit.int .u32 sk).wf = true) (hrow : IsRow .i64 w a len zs) :
    Calls Try.prog 12 #[.int .i64 size, .int .u64 boot, .int .u32 sk, .slice a len cap] w fun r w' => r = .returned (.bool true) ∧ Below w.heap.size w w' := by
  have h1 : 0 ≤ boot ∧ boot ≤ 18446744073709551615 := by simpa [Lit.wf, IntKind.min, IntKind.max, IntKind.signed, IntKind.bits] using wb
  have h2 : 0 ≤ sk ∧ sk ≤ 4294967295 := by simpa [Lit.wf, IntKind.min, IntKind.max, IntKind.signed, IntKind.bits] using ws
  obtain ⟨n, rfl⟩ := Int.eq_ofNat_of_zero_le h1.1
  obtain ⟨k, rfl⟩ := Int.eq_ofNat_of_zero_le h2.1
  by_cases hn : n = 0
  · subst hn
    exact ord_zero size k a len cap w
  · exact ord_core size n k a len cap zs w hn (by omega) hrow
end Go.Proofs.Ytoembbdjpelogaa
