/-
  ots.Digits.
-/
import Derived.Test.YtpljjmdkagbjpaaDoorAlloc
import Derived.Test.YtpljjmdkagbjpaaDoorOtsM
namespace Go.Proofs.YtpljjmdkagbjpaaDoor
open Go.RowKit

/-- All digits, in a row. -/
def digS (m : List Int) : List Int := (List.range 68).map (digA m)
theorem digS_len (m : List Int) : (digS m).length = 68 := by simp [digS]
theorem digS_at (m : List Int) {c : Nat} (h : c < 68) : (digS m).getD c 0 = digA m c := by
  unfold digS
  rw [List.getD_eq_getElem?_getD, List.getElem?_map, List.getElem?_range h]
  rfl
/-- The digits that are set, zeros elsewhere. -/
def part (m : List Int) (S : Nat → Bool) : List Int := (List.range 68).map fun c => if S c then digA m c else 0
theorem part_len (m : List Int) (S : Nat → Bool) : (part m S).length = 68 := by simp [part]
theorem part_get (m : List Int) (S : Nat → Bool) {j : Nat} (h : j < 68) : (part m S)[j]? = some (if S j then digA m j else 0) := by
  unfold part
  rw [List.getElem?_map, List.getElem?_range h]
  rfl
theorem part_none (m : List Int) : part m (fun c => decide (c < 0)) = List.replicate 68 0 := by
  apply List.ext_getElem?
  intro j
  by_cases h : j < 68
  · rw [part_get m _ h, List.getElem?_replicate, if_pos h]
    simp
  · rw [List.getElem?_eq_none (by rw [part_len]; omega), List.getElem?_eq_none (by simp; omega)]
theorem part_step (m : List Int) (S T : Nat → Bool) (i : Nat) (hi : i < 68) (hT : ∀ c, T c = (S c || decide (c = i))) : (part m S).set i (digA m i) = part m T := by
  apply List.ext_getElem?
  intro j
  rw [List.getElem?_set, part_len]
  by_cases h : j < 68
  · rw [part_get m T h, hT j, part_get m S h]
    by_cases e : i = j
    · subst e; simp [h]
    · have e2 : decide (j = i) = false := decide_eq_false fun h => e h.symm
      rw [if_neg e, e2, Bool.or_false]
  · rw [List.getElem?_eq_none (l := part m T) (by rw [part_len]; omega), List.getElem?_eq_none (l := part m S) (by rw [part_len]; omega)]
    split
    · rename_i e; omega
    · rfl
theorem part_all (m : List Int) (S : Nat → Bool) (h : ∀ c, c < 68 → S c = true) : part m S = digS m := by
  unfold part digS
  apply List.map_congr_left
  intro c hc
  rw [h c (List.mem_range.1 hc)]
  rfl
theorem wr64 {n : Int} (h : -9223372036854775808 ≤ n ∧ n ≤ 9223372036854775807) : wrap64 n = n := by unfold wrap64; omega
theorem and3 (y : Int) (h : 0 ≤ y ∧ y ≤ 255) : bits .and .u8 y 3 = y % 4 := by
  have key : ∀ a : Fin 256, bits .and .u8 (a.val : Int) 3 = (a.val : Int) % 4 := by decide +kernel
  have k := key ⟨y.toNat, by omega⟩
  rw [show ((y.toNat : Nat) : Int) = y by omega] at k
  exact k
theorem and3i (y : Int) (h : 0 ≤ y ∧ y ≤ 255) : bits .and .i64 y 3 = y % 4 := by
  have key : ∀ a : Fin 256, bits .and .i64 (a.val : Int) 3 = (a.val : Int) % 4 := by decide +kernel
  have k := key ⟨y.toNat, by omega⟩
  rw [show ((y.toNat : Nat) : Int) = y by omega] at k
  exact k
theorem shr_dig (x : Int) (h : 0 ≤ x ∧ x ≤ 255) (j : Nat) (hj : j < 4) : bits .and .u8 (x / 2 ^ (6 - 2 * j)) 3 = x / 4 ^ (3 - j) % 4 := by
  have hc : j = 0 ∨ j = 1 ∨ j = 2 ∨ j = 3 := by omega
  rcases hc with rfl | rfl | rfl | rfl
  · rw [and3 _ (by simp only [Nat.mul_zero, Nat.sub_zero]; omega)]; rfl
  · rw [and3 _ (by simp only [Nat.mul_one, Nat.reduceSub]; omega)]; rfl
  · rw [and3 _ (by simp only [Nat.reduceMul, Nat.reduceSub]; omega)]; rfl
  · rw [and3 _ (by simp only [Nat.reduceMul, Nat.reduceSub]; omega)]; rfl
theorem size33 : (Tryd.prog.info? 51).map (·.size) = some 68 := by kernel_rfl
set_option maxRecDepth 100000 in
set_option maxHeartbeats 4000000 in
theorem digits_any (m : List Int) (w : World) (hm : m.length = 16) (hb : Bytes m) :
    Calls Tryd.prog 41 #[.agg (kv .u8 m).toArray] w fun r w' => r = .returned (.agg (kv .u8 (digS m)).toArray) ∧ Below w.heap.size w w' := by
  have HM := Kp.mk hm
  have HB := Kp.mk hb
  obtain ⟨dl, hdl⟩ : ∃ dl, dl = digS m := ⟨_, rfl⟩
  rw [← hdl]
  have HDL := Kp.mk hdl
  clear hdl
  go_enter Tryd.func41, Tryd.ntmps41
  go_wp2_with (refine wpList_alloc_row rfl 51 rfl _ _ info33 ?_)
  obtain ⟨A, hA⟩ : ∃ A, A = w.heap.size := ⟨_, rfl⟩
  have HA := Kp.mk hA
  rw [← hA]
  refine wp_world (fun w2 => Row w2 A 27 .u8 m ∧ Row w2 (A + 1) 51 .u8 (List.replicate 68 0) ∧ Row w2 (A + 1 + 1) 51 .u8 (List.replicate 68 0) ∧ Below A w w2) ⟨(Blk.newAt (w := w) (.cells (kv .u8 m).toArray 27) hA).old _ |>.old _, (Blk.newAt _ (by rw [hA]; simp)).old _, Blk.newAt _ (by rw [hA]; simp), by rw [hA]; exact more (more (more (Below.refl _ _) _) _) _⟩ ?_
  rintro w2 ⟨h1, h2, h3, h4⟩
  have G1 := Kp.mk h1
  have G2 := Kp.mk h2
  have G3 := Kp.mk h3
  have G4 := Kp.mk h4
  clear h1 h2 h3 h4 hA
  go_loopw [4, 7] (fun l c wr => ∃ k : Nat, k ≤ 64 ∧ c = .int .i64 k ∧ l = .int .i64 (leftU m k) ∧ Kp (Row wr A 27 .u8 m) ∧ Kp (Row wr (A + 1) 51 .u8 (List.replicate 68 0)) ∧ Kp (Row wr (A + 1 + 1) 51 .u8 (part m fun c => decide (c < k))) ∧ Kp (Below A w wr)) (fun _ c _ => 64 - (intOf c).toNat)
  case atStart => exact ⟨0, by omega, rfl, rfl, G1, G2, ⟨by rw [part_none]; exact G3.out⟩, G4⟩
  case round =>
    obtain ⟨k, hk, rfl, rfl, F1, F2, F3, F4⟩ := hrel
    clear G1 G2 G3 G4
    by_cases hlt : k < 64
    · have hx := F1.out.cell (i := k / 4) (by have := HM.out; omega)
      have hxb := HB.out.at (i := k / 4) (by have := HM.out; omega)
      have hfr := F3.out.frozen k
      have hl := leftU_range m k
      have hs := shr_dig (m.getD (k / 4) 0) hxb (k % 4) (by omega)
      rw [show m.getD (k / 4) 0 / 4 ^ (3 - k % 4) % 4 = dig m k from rfl] at hs
      have HS := Kp.mk (And.intro hs (dig_range m k))
      have HL := Kp.mk (show leftU m (k + 1) = leftU m k + (3 - dig m k) from rfl)
      have HT := Kp.mk (part_step m (fun c => decide (c < k)) (fun c => decide (c < k + 1)) k (by omega) (fun c => by by_cases h1 : c < k <;> by_cases h2 : c = k <;> simp [h1, h2] <;> omega))
      have HD : Kp (digA m k = dig m k) := ⟨if_pos hlt⟩
      clear hs
      generalize leftU m k = l at *
      generalize m.getD (k / 4) 0 = x at *
      have hlt' : (k : Int) < 64 := by omega
      have hd := F3.out.cell (i := k) (by rw [part_len]; omega)
      generalize (part m fun c => decide (c < k)).getD k 0 = d0 at *
      go_wp2_with fail
      rw [HS.out.1]
      have hr := HS.out.2
      have e1 : wrap64 (l + wrap64 (3 - wrap64 (dig m k))) = leftU m (k + 1) := by
        rw [HL.out, wr64 (n := dig m k) (by omega), wr64 (n := 3 - dig m k) (by omega), wr64 (by omega)]
      rw [e1]
      refine ⟨⟨k + 1, by omega, by go_num, rfl, ⟨F1.out.other (by show A + 1 + 1 ≠ A; omega) _⟩, ⟨F2.out.other (by show A + 1 + 1 ≠ A + 1; omega) _⟩, ⟨((F3.out.set k _).as (by rw [← HD.out]; exact HT.out))⟩, ⟨F4.out.setCell (p := ⟨A + 1 + 1, k, none⟩) (by show A ≤ A + 1 + 1; omega) _⟩⟩, by simp [intOf]; omega⟩
    · obtain rfl : k = 64 := by omega
      have hlr := leftU_range m 64
      have hge : ¬ ((64 : Nat) : Int) < 64 := by omega
      generalize hL : leftU m 64 = l at *
      have HL := Kp.mk hL
      clear hL
      go_wp2_with fail
      go_loopw [30] (fun c wq => ∃ j : Nat, j ≤ 4 ∧ c = .int .i64 j ∧ Kp (Row wq (A + 1) 51 .u8 (List.replicate 68 0)) ∧ Kp (Row wq (A + 1 + 1) 51 .u8 (part m fun c => decide (c < 64) || decide (68 - j ≤ c))) ∧ Kp (Below A w wq)) (fun c _ => 4 - (intOf c).toNat)
      case atStart => exact ⟨0, by omega, rfl, F2, ⟨F3.out.as (by unfold part; apply List.map_congr_left; intro c hc; have := List.mem_range.1 hc; have e : decide (68 - 0 ≤ c) = false := decide_eq_false (by omega); simp only [e, Bool.or_false])⟩, F4⟩
      case round =>
        obtain ⟨j, hj, rfl, E2, E3, E4⟩ := hrel
        clear F1 F2 F3 F4
        by_cases hlt2 : j < 4
        · have hlt2' : (j : Int) < 4 := by omega
          have hfr := E3.out.frozen (67 - j)
          have hd := E3.out.cell (i := 67 - j) (by rw [part_len]; omega)
          generalize (part m fun c => decide (c < 64) || decide (68 - j ≤ c)).getD (67 - j) 0 = d0 at *
          go_wp2_with fail
          have hc : bits .and .i64 (l / 2 ^ (2 * j)) 3 % 256 = digA m (67 - j) := by
            have hlb : 0 ≤ l ∧ l ≤ 255 := by omega
            unfold digA
            rw [if_neg (by omega), HL.out]
            unfold chk
            have hcs : j = 0 ∨ j = 1 ∨ j = 2 ∨ j = 3 := by omega
            rcases hcs with rfl | rfl | rfl | rfl
            · rw [and3i _ (by simp only [Nat.mul_zero]; omega)]
              show l / 1 % 4 % 256 = l / 1 % 4
              omega
            · rw [and3i _ (by show 0 ≤ l / 4 ∧ l / 4 ≤ 255; omega)]
              show l / 4 % 4 % 256 = l / 4 % 4
              omega
            · rw [and3i _ (by show 0 ≤ l / 16 ∧ l / 16 ≤ 255; omega)]
              show l / 16 % 4 % 256 = l / 16 % 4
              omega
            · rw [and3i _ (by show 0 ≤ l / 64 ∧ l / 64 ≤ 255; omega)]
              show l / 64 % 4 % 256 = l / 64 % 4
              omega
          rw [hc]
          have hT := part_step m (fun c => decide (c < 64) || decide (68 - j ≤ c)) (fun c => decide (c < 64) || decide (68 - (j + 1) ≤ c)) (67 - j) (by omega) (fun c => by
            by_cases h1 : c < 64
            · simp [h1]
            · by_cases h2 : 68 - j ≤ c
              · have h3 : 68 - (j + 1) ≤ c := by omega
                simp [h2, h3]
                omega
              · by_cases h3 : c = 67 - j
                · have h4 : 68 - (j + 1) ≤ c := by omega
                  simp [h1, h3]
                · have h4 : ¬ 68 - (j + 1) ≤ c := by omega
                  have e1 : decide (c < 64) = false := decide_eq_false h1
                  have e2 : decide (68 - j ≤ c) = false := decide_eq_false h2
                  have e3 : decide (c = 67 - j) = false := decide_eq_false h3
                  have e4 : decide (68 - (j + 1) ≤ c) = false := decide_eq_false h4
                  rw [e1, e2, e3, e4]
                  rfl)
          refine ⟨⟨j + 1, by omega, by go_num, ⟨E2.out.other (by show A + 1 + 1 ≠ A + 1; omega) _⟩, ⟨(E3.out.set (67 - j) _).as hT⟩, ⟨E4.out.setCell (p := ⟨A + 1 + 1, 67 - j, none⟩) (by show A ≤ A + 1 + 1; omega) _⟩⟩, by simp [intOf]; omega⟩
        · obtain rfl : j = 4 := by omega
          have hge2 : ¬ ((4 : Nat) : Int) < 4 := by omega
          have K3 : Kp (Row wr (A + 1 + 1) 51 .u8 dl) := ⟨HDL.out ▸ E3.out.as (part_all m _ fun c hc => by
            by_cases h : c < 64
            · simp [h]
            · have h4 : 68 - 4 ≤ c := by omega
              simp [h4])⟩
          have hlen : dl.length = 68 := by rw [HDL.out]; exact digS_len m
          have HLN := Kp.mk hlen
          have HC33 : Kp ((Tryd.prog.info? 51).map (·.size) = some (kv .u8 dl).toArray.size) := ⟨by rw [show (kv .u8 dl).toArray.size = 68 by simp [hlen]]; exact size33⟩
          have KR := Kp.mk (E2.out.setRow dl)
          have KB := Kp.mk (Below.row E4.out (g := A + 1) (by omega) (kv .u8 dl).toArray)
          have HZ : Kp ((kv .u8 (List.replicate 68 0)).toArray.size = (kv .u8 dl).toArray.size) := ⟨by rw [kv_size, kv_size, hlen]; simp⟩
          clear E3 hlen
          go_wp2_with (first
            | (refine wpList_load_row rfl 51 (.tmp 3) rfl (A + 1 + 1) rfl 51 (kv .u8 dl).toArray (0, 0) _ K3.out Tryd.underlying51 rfl HC33.out ?_)
            | (refine wpList_store_row rfl 51 (.tmp 2) (.tmp 43) rfl (A + 1) (kv .u8 dl).toArray rfl rfl 51 _ E2.out HC33.out HZ.out (kv_all _ _) ?_))
          refine bodyPost_ret (v := .agg (kv .u8 dl).toArray) (results_cell_row rfl _ _ (A + 1) 51 _ (0, 0) _ rfl KR.out Tryd.underlying51 rfl HC33.out) rfl ⟨rfl, by rw [← HA.out]; exact KB.out⟩
end Go.Proofs.YtpljjmdkagbjpaaDoor
