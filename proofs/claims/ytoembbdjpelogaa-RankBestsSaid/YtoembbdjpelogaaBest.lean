/-
  The contracts of the two Best.
-/
import Derived.Test.YtoembbdjpelogaaBestP
import Derived.Test.YtoembbdjpelogaaFlow
import Derived.WalkSpells
import Derived.WalkLawsBesides
import Derived.Outline
import Derived.LoopTactic
namespace Go.Proofs.Ytoembbdjpelogaa
open Go.RowKit

theorem reti' {k : IntKind} {a b : Int} (h : a = b) : Ending.returned (.int k a) = .returned (.int k b) := by rw [h]
abbrev key26 (x : K3) : Obj := .cells #[.int .u32 x.1, .int .u32 x.2.1, .int .i64 x.2.2] 26

set_option maxHeartbeats 1600000 in
theorem best_any (f : Nat → K3) (n cap : Nat) (a : Option Addr) (w : World) (hn : n ≤ 200) (hv : HoldsK w a n f) :
    Calls Try.prog 26 #[.slice a n cap] w fun r w' => ∃ k, r = .returned (.int .i64 k) ∧ IsBest f n k ∧ Below w.heap.size w w' := by
  have HA := Lib.hid hv
  clear hv
  go_enter Try.func26, Try.ntmps26
  go_wp2_with fail
  go_loopw [3, 4, 5, 8] (fun bst _ _ c wr => ∃ i : Nat, ∃ k : Int, i ≤ n ∧ c = .int .i64 i ∧ bst = .int .i64 k ∧ IsBest f i k ∧ Below w.heap.size w wr) (fun _ _ _ c _ => n - (intOf c).toNat)
  case atStart => exact ⟨0, -1, by omega, rfl, rfl, .inl ⟨rfl, rfl⟩, Below.refl _ _⟩
  case round =>
    obtain ⟨i, k, hi, rfl, rfl, hbest, E0⟩ := hrel
    have HBEST := Lib.hid hbest
    by_cases hlt : i < n
    · obtain ⟨b, off, rfl, hbB, hc⟩ := HA.out (by omega)
      have HCELL := Lib.hid hc
      obtain ⟨h0, h1, h2⟩ := hc i hlt
      have d0 := (E0.cell (p := ⟨b, off + i * 3, none⟩) hbB).trans h0
      have d1 := (E0.cell (p := ⟨b, off + i * 3 + 1, none⟩) hbB).trans h1
      have d2 := (E0.cell (p := ⟨b, off + i * 3 + 2, none⟩) hbB).trans h2
      clear hc h0 h1 h2
      have hIO : i * 3 + 2 < 1000 := by omega
      rcases hbest with ⟨hi0, rfl⟩ | ⟨c, hcb, rfl, -, -⟩
      · have HI := Lib.hid hi0
        clear hi0
        go_wp2_with fail
        refine wp_region_flow (fun w' => Below w.heap.size w w' ∧ Blk w' wr.heap.size (key26 (f i))) (by kernel_rfl) (by kernel_rfl) (by kernel_rfl)
          (fun _ _ h hb => ⟨thru h.1 hb, h.2.keep hb⟩) ⟨(more E0 _).drew, (Blk.new _ _).draw⟩ ?_
        repeat (first
          | (apply Flow.idle
             · rfl
             try simp only [Act.put, List.setIfInBounds_toArray, List.set_cons_zero, List.set_cons_succ])
          | (apply Flow.value
             · rfl
             · (intro wx hS; have c1 := hS.2.cell; go_simp; with_reducible rfl)
             try simp only [Act.put, List.setIfInBounds_toArray, List.set_cons_zero, List.set_cons_succ]))
        refine Flow.done ?_
        intro w4 hS
        have HS4 := Lib.hid hS
        clear hS d0 d1 d2
        go_wp2_with fail
        exact ⟨⟨i + 1, (i : Nat), by omega, by go_num, rfl, by have := HI.out; subst this; exact IsBest.first f, HS4.out.1⟩, by simp [intOf]; omega⟩
      · have t0 : (0 : Int) ≤ (c : Int) := by omega
        have t1 : (c : Int) < n := by omega
        have t2 : decide ((c : Int) < 0) = false := by simp
        go_wp2_with fail
        refine wp_region_flow (fun w' => Below w.heap.size w w' ∧ Blk w' wr.heap.size (key26 (f i))) (by kernel_rfl) (by kernel_rfl) (by kernel_rfl)
          (fun _ _ h hb => ⟨thru h.1 hb, h.2.keep hb⟩) ⟨(more E0 _).drew, (Blk.new _ _).draw⟩ ?_
        clear d0 d1 d2
        repeat (first
          | (apply Flow.idle
             · rfl
             try simp only [Act.put, List.setIfInBounds_toArray, List.set_cons_zero, List.set_cons_succ])
          | (apply Flow.value
             · rfl
             · (intro wx hS; have c1 := hS.2.cell; have c2 := (hS.1.cell (p := ⟨b, off + c * 3, none⟩) hbB).trans (HCELL.out c (by omega)).1; have c3 := (hS.1.cell (p := ⟨b, off + c * 3 + 1, none⟩) hbB).trans (HCELL.out c (by omega)).2.1; have c4 := (hS.1.cell (p := ⟨b, off + c * 3 + 2, none⟩) hbB).trans (HCELL.out c (by omega)).2.2; go_simp; with_reducible rfl)
             try simp only [Act.put, List.setIfInBounds_toArray, List.set_cons_zero, List.set_cons_succ])
          | (apply Flow.call
             · rfl
             · (intro wx hS; go_simp; constructor <;> with_reducible rfl)
             · (intro wx hS; exact compare_any _ _ _ _ _ _ _)
             try simp only [Act.put, List.setIfInBounds_toArray, List.set_cons_zero, List.set_cons_succ]))
        refine Flow.done ?_
        intro w4 hS
        have HS4 := Lib.hid hS
        clear hS
        rw [show decide (0 < compareI (f i).1 (f i).2.1 (f i).2.2 (f c).1 (f c).2.1 (f c).2.2) = btr (f i) (f c) from cmp3_pos _ _]
        by_cases hb : btr (f i) (f c) = true
        · rw [hb]
          have HB := Lib.hid hb
          clear hb
          go_wp2_with fail
          exact ⟨⟨i + 1, (i : Nat), by omega, by go_num, rfl, HBEST.out.up HB.out, HS4.out.1⟩, by simp [intOf]; omega⟩
        · have hb' : btr (f i) (f c) = false := by simpa using hb
          rw [hb']
          have HB := Lib.hid hb'
          clear hb hb'
          go_wp2_with fail
          exact ⟨⟨i + 1, (c : Nat), by omega, by go_num, rfl, HBEST.out.stay HB.out, HS4.out.1⟩, by simp [intOf]; omega⟩
    · obtain rfl : i = n := by omega
      go_wp2_with fail
      go_ret
      exact ⟨k, rfl, HBEST.out, E0⟩

set_option maxHeartbeats 1600000 in
theorem refBest_any (f : Nat → K3) (n cap : Nat) (a : Option Addr) (w : World) (k : Int) (hn : n ≤ 200) (hv : HoldsK w a n f) (hk : IsBest f n k) :
    Calls Try.prog 27 #[.slice a n cap] w fun r w' => r = .returned (.int .i64 k) ∧ Below w.heap.size w w' := by
  have HA := Lib.hid hv
  have HK := Lib.hid hk
  clear hv hk
  go_enter Try.func27, Try.ntmps27
  go_wp2_with fail
  go_loopw [3, 4, 5] (fun c _ _ wr => ∃ i : Nat, i ≤ n ∧ c = .int .i64 i ∧ (n ≠ 0 → (i : Int) ≤ k) ∧ Below w.heap.size w wr) (fun c _ _ _ => n - (intOf c).toNat)
  case atStart => exact ⟨0, by omega, rfl, fun h0 => by rcases HK.out with ⟨h, _⟩ | ⟨b, _, h, _⟩ <;> omega, Below.refl _ _⟩
  case round =>
    obtain ⟨i, hi, rfl, hik, E0⟩ := hrel
    have HIK := Lib.hid hik
    clear hik
    by_cases hlt : i < n
    · obtain ⟨b, off, rfl, hbB, hc⟩ := HA.out (by omega)
      have HCELL := Lib.hid hc
      clear hc
      have HE0 := Lib.hid E0
      go_wp2_with fail
      go_loopw [4, 5] (fun nn c wr => ∃ j : Nat, ∃ nb : Bool, j ≤ n ∧ c = .int .i64 j ∧ nn = .bool nb ∧ (nb = true ↔ ∀ x, x < j → btr (f x) (f i) = false) ∧ Below w.heap.size w wr) (fun _ c _ => n - (intOf c).toNat)
      case atStart => exact ⟨0, true, by omega, rfl, rfl, by simp, HE0.out⟩
      case round =>
        obtain ⟨j, nb, hj, rfl, rfl, hnb, E1⟩ := hrel
        have HNB := Lib.hid hnb
        clear hnb
        by_cases hlj : j < n
        · go_wp2_with fail
          have t0 : (0 : Int) ≤ (i : Int) := by omega
          have t1 : (i : Int) < n := by omega
          have t2 : (j : Int) < n := by omega
          refine wp_region_flow (fun w' => Below w.heap.size w w') (by kernel_rfl) (by kernel_rfl) (by kernel_rfl)
            (fun _ _ h hb => thru h hb) E1.drew ?_
          repeat (first
            | (apply Flow.value
               · rfl
               · (intro wx hS; have c2 := (hS.cell (p := ⟨b, off + i * 3, none⟩) hbB).trans (HCELL.out i hlt).1; have c3 := (hS.cell (p := ⟨b, off + i * 3 + 1, none⟩) hbB).trans (HCELL.out i hlt).2.1; have c4 := (hS.cell (p := ⟨b, off + i * 3 + 2, none⟩) hbB).trans (HCELL.out i hlt).2.2; have d2 := (hS.cell (p := ⟨b, off + j * 3, none⟩) hbB).trans (HCELL.out j hlj).1; have d3 := (hS.cell (p := ⟨b, off + j * 3 + 1, none⟩) hbB).trans (HCELL.out j hlj).2.1; have d4 := (hS.cell (p := ⟨b, off + j * 3 + 2, none⟩) hbB).trans (HCELL.out j hlj).2.2; go_simp; with_reducible rfl)
               try simp only [Act.put, List.setIfInBounds_toArray, List.set_cons_zero, List.set_cons_succ])
            | (apply Flow.call
               · rfl
               · (intro wx hS; go_simp; constructor <;> with_reducible rfl)
               · (intro wx hS; exact better_any _ _ _ _ _ _ _)
               try simp only [Act.put, List.setIfInBounds_toArray, List.set_cons_zero, List.set_cons_succ]))
          refine Flow.done ?_
          intro w4 hS
          have HS4 := Lib.hid hS
          clear hS
          rw [show betterB (f j).1 (f j).2.1 (f j).2.2 (f i).1 (f i).2.1 (f i).2.2 = btr (f j) (f i) from rfl]
          by_cases hb : btr (f j) (f i) = true
          · rw [hb]
            have HB := Lib.hid hb
            clear hb
            go_wp2_with fail
            have hiff : false = true ↔ ∀ x, x < j + 1 → btr (f x) (f i) = false := by
              have hno := HB.out
              constructor
              · intro h; cases h
              · intro h; rw [h j (by omega)] at hno; cases hno
            exact ⟨⟨j + 1, false, by omega, by go_num, rfl, hiff, HS4.out⟩, by simp [intOf]; omega⟩
          · have hb' : btr (f j) (f i) = false := by simpa using hb
            rw [hb']
            have HB := Lib.hid hb'
            clear hb hb'
            go_wp2_with fail
            have hiff : nb = true ↔ ∀ x, x < j + 1 → btr (f x) (f i) = false := by
              rw [HNB.out]
              constructor
              · intro h x hx
                by_cases hxj : x = j
                · rw [hxj]; exact HB.out
                · exact h x (by omega)
              · intro h x hx; exact h x (by omega)
            exact ⟨⟨j + 1, nb, by omega, by go_num, rfl, hiff, HS4.out⟩, by simp [intOf]; omega⟩
        · obtain rfl : j = n := by omega
          by_cases hnb : nb = true
          · subst hnb
            go_wp2_with fail
            go_ret
            refine ⟨reti' ?_, E1⟩
            have hmax : ∀ x, x < j → btr (f x) (f i) = false := by simpa using HNB.out
            rcases HK.out with ⟨h, _⟩ | ⟨c, hc, rfl, h1, h2⟩
            · omega
            · have h3 := HIK.out (by omega)
              by_cases hic : i = c
              · rw [hic]
              · have h4 := h2 i (by omega)
                have h5 := hmax c hc
                rw [h4] at h5
                cases h5
          · obtain rfl : nb = false := by simpa using hnb
            go_wp2_with fail
            refine ⟨⟨i + 1, by omega, by go_num, fun h0 => ?_, E1⟩, by simp [intOf]; omega⟩
            rcases HK.out with ⟨h, _⟩ | ⟨c, hc, rfl, h1, h2⟩
            · omega
            · have h3 := HIK.out h0
              by_cases hic : i = c
              · subst hic
                have := HNB.out.2 h1
                cases this
              · omega
    · obtain rfl : i = n := by omega
      go_wp2_with fail
      go_ret
      refine ⟨reti' ?_, E0⟩
      rcases HK.out with ⟨_, h⟩ | ⟨c, hc, rfl, _, _⟩
      · exact h.symm
      · have := HIK.out (by omega)
        omega
end Go.Proofs.Ytoembbdjpelogaa
