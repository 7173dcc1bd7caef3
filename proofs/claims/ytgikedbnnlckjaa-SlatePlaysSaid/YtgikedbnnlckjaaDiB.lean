/-
  layer 15: number, ending, told, sum.
-/
import Derived.Test.YtgikedbnnlckjaaDiA
import Derived.Laws.BitsAllLaws
namespace Go.Proofs.Ytgikedbnnlckjaa
open Go.RowKit

theorem or_add {n x : Int} (h0 : 0 ≤ n) (h1 : n < 16777216) (h2 : 0 ≤ x ∧ x ≤ 255) : bits .or .u32 (n * 256) x = n * 256 + x := by
  obtain ⟨a, rfl⟩ := Int.eq_ofNat_of_zero_le h0
  obtain ⟨b, rfl⟩ := Int.eq_ofNat_of_zero_le h2.1
  have e := u32_or_nat (a * 256) b (by omega) (by omega)
  have e2 : a * 256 ||| b = a * 256 + b := by
    have := Nat.shiftLeft_add_eq_or_of_lt (b := b) (i := 8) (by omega) a
    rw [Nat.shiftLeft_eq] at this
    simpa using this.symm
  rw [e2] at e
  simpa using e
set_option maxRecDepth 100000 in
set_option maxHeartbeats 400000 in
theorem number_any (b off cap : Nat) (l : List Int) (w : World) (hl : l.length ≤ 4) (hb : Bytes l) (hr : w.rangeAt b off (kv .u8 l)) : Calls Try.prog 66 #[.slice (some ⟨b, off, none⟩) l.length cap] w fun r w' => r = .returned (.int .u32 (numV l)) ∧ w = w' := by
  have HB := Kp.mk hb
  have HR := Kp.mk hr
  obtain ⟨len, hln⟩ : ∃ len, len = l.length := ⟨_, rfl⟩
  rw [← hln] at hl ⊢
  have HLN := Kp.mk hln
  clear hb hr hln
  go_enter Try.func66, Try.ntmps66
  go_wp2
  go_loop [3, 8] (fun n i => ∃ k : Nat, k ≤ len ∧ i = .int .i64 k ∧ n = .int .u32 (numV (l.take k))) (fun _ i => len - (intOf i).toNat)
  case atStart => exact ⟨0, Nat.zero_le _, rfl, rfl⟩
  case round =>
    obtain ⟨k, hk, rfl, rfl⟩ := hrel
    by_cases hlt : k < len
    · have hlt' : (k : Int) < (len : Int) := by omega
      have hkl : k < l.length := by rw [← HLN.out]; exact hlt
      obtain ⟨n, hn⟩ : ∃ n, n = numV (l.take k) := ⟨_, rfl⟩
      obtain ⟨x, hx⟩ : ∃ x, x = l[k] := ⟨_, rfl⟩
      have hcx : w.cell? ⟨b, off + k, none⟩ = some (.int .u8 x) := HR.out k _ (by rw [List.getElem?_map, List.getElem?_eq_getElem hkl, ← hx]; rfl)
      have hxb := HB.out x (by rw [hx]; exact List.getElem_mem _)
      obtain ⟨n0, n1⟩ := numV_bd (l.take k) (HB.out.take k)
      have hp : (256 : Int) ^ (l.take k).length ≤ 256 ^ 3 := by
        rw [List.length_take]
        exact_mod_cast Nat.pow_le_pow_right (by decide) (by omega)
      rw [← hn] at n0 n1 ⊢
      have n2 : n < 16777216 := by
        have : (256 : Int) ^ 3 = 16777216 := by decide
        omega
      have HE : Kp (numV (l.take (k + 1)) = n * 256 + x) := ⟨by rw [List.take_add_one, List.getElem?_eq_getElem hkl, ← hx]; simp only [Option.toList_some]; rw [numV_snoc, ← hn]⟩
      have ho := or_add n0 n2 hxb
      clear hx hn hp n1 hkl
      go_wp2
      clear ho hxb n0 n2 hcx
      go_round
      case rel => exact ⟨k + 1, by omega, by go_num, by rw [HE.out]⟩
      case measure => simp [intOf]; omega
    · obtain rfl : k = len := by omega
      have HE : Kp (numV (l.take k) = numV l) := ⟨by rw [List.take_of_length_le (by rw [← HLN.out]; exact Nat.le_refl _)]⟩
      rw [HE.out]
      go_wp2
      go_ret
      exact ⟨rfl, rfl⟩
/-- A sector's last four bytes; what it tells at both ends. -/
def endV (z : List Int) : Int := numV (z.drop 60)
def toldV (z : List Int) : Int := if numV (z.take 4) = endV z then endV z else 0
theorem row_part {w : World} {B : Nat} {z : List Int} (h : Row w B 35 .u8 z) (o n : Nat) (hl : o + n ≤ z.length) : w.rangeAt B o (kv .u8 ((z.drop o).take n)) := h.mid hl
set_option maxRecDepth 100000 in
set_option maxHeartbeats 400000 in
theorem ending_any (z : List Int) (w : World) (hz : z.length = 64) (hzb : Bytes z) : Calls Try.prog 63 #[sec z] w fun r w' => r = .returned (.int .u32 (endV z)) ∧ Below w.heap.size w w' := by
  have HZ := Kp.mk hz
  have HZB := Kp.mk hzb
  have hC := fun (w : World) => box_row (t := 35) (cs := kv .u8 z) (cells35 hz) w
  have HL : Kp ((z.drop 60).length = 4) := ⟨by rw [List.length_drop, hz]⟩
  clear hz hzb
  go_enter Try.func63, Try.ntmps63
  go_wp2_with (refine wpList_box_eq rfl 35 (.tmp 0) rfl _ rfl _ _ (hC _) ?_; refine wpl_world (fun w2 => Row w2 w.heap.size 35 .u8 z ∧ Below w.heap.size w w2) ⟨Blk.new _ _, more (Below.refl _ _) _⟩ ?_; rintro W2 ⟨h1, h2⟩; have K1 := Kp.mk h1; have K2 := Kp.mk h2; clear h1 h2)
  have h := number_any w.heap.size 60 4 (z.drop 60) W2 (by rw [HL.out]; exact Nat.le_refl _) (HZB.out.drop 60) (by
    have := K1.out.mid (o := 60) (n := 4) (by rw [HZ.out]; exact Nat.le_refl _)
    rwa [List.take_of_length_le (by rw [HL.out]; exact Nat.le_refl _)] at this)
  rw [HL.out] at h
  refine h.mono ?_
  rintro r w1 ⟨rfl, rfl⟩
  clear h
  go_wp2_with fail
  go_ret
  exact ⟨rfl, K2.out⟩
set_option maxRecDepth 100000 in
set_option maxHeartbeats 400000 in
theorem told_any (z : List Int) (w : World) (hz : z.length = 64) (hzb : Bytes z) : Calls Try.prog 59 #[sec z] w fun r w' => r = .returned (.int .u32 (toldV z)) ∧ Below w.heap.size w w' := by
  have HZ := Kp.mk hz
  have HZB := Kp.mk hzb
  have hC := fun (w : World) => box_row (t := 35) (cs := kv .u8 z) (cells35 hz) w
  have HL : Kp ((z.take 4).length = 4) := ⟨by rw [List.length_take, hz]; rfl⟩
  clear hz hzb
  obtain ⟨n, hn⟩ : ∃ n, n = numV (z.take 4) := ⟨_, rfl⟩
  obtain ⟨m, hm⟩ : ∃ m, m = endV z := ⟨_, rfl⟩
  have HN := Kp.mk hn
  have HMz := Kp.mk hm
  have HT : toldV z = if n = m then m else 0 := by unfold toldV; rw [← hn, ← hm]
  rw [HT]
  clear hn hm HT
  go_enter Try.func59, Try.ntmps59
  go_wp2_with (refine wpList_box_eq rfl 35 (.tmp 0) rfl _ rfl _ _ (hC _) ?_; refine wpl_world (fun w2 => Row w2 w.heap.size 35 .u8 z ∧ Below w.heap.size w w2) ⟨Blk.new _ _, more (Below.refl _ _) _⟩ ?_; rintro W2 ⟨h1, h2⟩; have K1 := Kp.mk h1; have K2 := Kp.mk h2; clear h1 h2)
  have h := number_any w.heap.size 0 64 (z.take 4) W2 (by rw [HL.out]; exact Nat.le_refl _) (HZB.out.take 4) (by
    have := K1.out.mid (o := 0) (n := 4) (by rw [HZ.out]; decide)
    rwa [List.drop_zero] at this)
  rw [HL.out] at h
  refine h.mono ?_
  rintro r w1 ⟨rfl, rfl⟩
  clear h
  rw [← HN.out]
  go_wp2_with (refine wpList_load_row rfl 35 (.tmp 1) rfl w.heap.size rfl 35 _ (0, 0) _ K1.out Try.underlying35 rfl (cells64 HZ.out) ?_)
  refine (ending_any z _ HZ.out HZB.out).mono ?_
  rintro r w3 ⟨rfl, hb3⟩
  have HB3 : Kp (Below w.heap.size w w3) := ⟨K2.out.trans (hb3.mono K2.out.size)⟩
  rw [← HMz.out]
  clear hb3
  by_cases he : n = m
  · subst he
    have he0 : ((n : Int) == n) = true := by simp
    go_wp2_with fail
    go_ret
    exact ⟨by simp, HB3.out⟩
  · have he0 : ((n : Int) == m) = false := by simp [he]
    go_wp2_with fail
    go_ret
    exact ⟨rfl, HB3.out⟩
end Go.Proofs.Ytgikedbnnlckjaa
