/-
  (*sha.Hash).end: what stands behind the last byte is taken in. (*sha.Hash).Blocks.
-/
import Derived.Test.YtpljjmdkagbjpaaDoorBlocks
namespace Go.Proofs.YtpljjmdkagbjpaaDoor
open Go.RowKit

/-- The bytes behind a text of n bytes, but for the last of the length's. -/
def tl (n k : Nat) : List Int := [128] ++ List.replicate (zeros n) 0 ++ (be64 (8 * (n : Int) % 18446744073709551616)).take k
theorem be64_len (n : Int) : (be64 n).length = 8 := by simp [be64]
theorem tl_len (n k : Nat) (h : k ≤ 8) : (tl n k).length = zeros n + 1 + k := by simp [tl, be64_len]; omega
theorem tl_full (n : Nat) : tl n 8 = tail n := by unfold tl tail; rw [List.take_of_length_le (by rw [be64_len]; omega)]
theorem be64_get (n : Int) (j : Nat) (h : j < 8) : (be64 n).getD j 0 = n / 2 ^ (56 - 8 * j) % 256 := by
  match j, h with
  | 0, _ => rfl
  | 1, _ => rfl
  | 2, _ => rfl
  | 3, _ => rfl
  | 4, _ => rfl
  | 5, _ => rfl
  | 6, _ => rfl
  | 7, _ => rfl
theorem tl_succ (n k : Nat) (h : k < 8) : tl n (k + 1) = tl n k ++ [(8 * (n : Int) % 18446744073709551616) / 2 ^ (56 - 8 * k) % 256] := by
  unfold tl
  rw [← be64_get _ k h, List.take_succ_eq_append_getElem (by rw [be64_len]; exact h), List.append_assoc, List.getD_eq_getElem?_getD, List.getElem?_eq_getElem (by rw [be64_len]; exact h)]
  simp
theorem tl_bytes (n k : Nat) : Bytes (tl n k) := by
  intro x hx
  unfold tl at hx
  rcases List.mem_append.1 hx with hx | hx
  · rcases List.mem_append.1 hx with hx | hx
    · simp at hx; omega
    · have := List.eq_of_mem_replicate hx; omega
  · have := List.mem_of_mem_take hx
    unfold be64 at this
    obtain ⟨i, _, rfl⟩ := List.mem_map.1 this
    omega
theorem tl_zero (n : Nat) : fill 128 (tl n 0) = (fill 128 []).set 0 128 := by
  have hz : zeros n ≤ 63 := by unfold zeros; omega
  unfold fill tl
  simp only [List.take_zero, List.append_nil, List.length_append, List.length_cons, List.length_nil, List.length_replicate, List.nil_append, Nat.sub_zero]
  rw [List.append_assoc, List.replicate_append_replicate, show zeros n + (128 - (0 + 1 + zeros n)) = 127 by omega]
  rfl
theorem zeros_blocks (n : Nat) : 64 * blocks n = n + zeros n + 9 := by
  unfold blocks zeros
  split <;> omega
set_option maxRecDepth 100000 in
theorem slice99 (t k : Nat) (h : k ≤ 128) (w : World) : (Instr.sliceAt 156 (.pointer (some ⟨t, 0, none⟩)) none (some (.int .i64 k)) none).run Tryd.prog w = .ok (.slice (some ⟨t, 0, none⟩) k 128) w := by
  have hl : Tryd.prog.arrayLen 156 = 128 := by kernel_rfl
  have he : Tryd.prog.elem 156 = 5 := by kernel_rfl
  rw [run_sliceAt_array_h (ht := Tryd.underlying156) (h0 := by omega) (h2 := by rw [hl]; omega), hl, he, size5]
  simp only [Result.andThen, slicedAt, Int.toNat_natCast, Nat.mul_one]
  rw [if_neg (by omega)]
  have e : (⟨t, 0, none⟩ : Addr).add 0 = ⟨t, 0, none⟩ := by unfold Addr.add; split <;> simp_all
  rw [e]
  rfl
set_option maxRecDepth 100000 in
set_option maxHeartbeats 1000000 in
theorem end_any (b : Nat) (l : List Int) (w : World) (hk : KonIs w) (h0 : 0 < b) (hH : HashIs w b l) (hlen : l.length ≤ 999999999999000) :
    Calls Tryd.prog 89 #[.pointer (some ⟨b, 0, none⟩)] w fun r w' => r = .returned (.tuple #[]) ∧ HashTurn b (pad l) w w' := by
  have hH' := hH
  obtain ⟨rest, hr1, hr2, hr3, hB⟩ := hH'
  obtain ⟨n, hn0⟩ : ∃ n, n = l.length := ⟨_, rfl⟩
  rw [← hn0] at hB hr3 hlen
  have c72 : w.cell? ⟨b, 72, none⟩ = some (.int .i64 n) := by rw [hB.cell, hash_taken (list_len _) hr1]
  obtain ⟨B, hBl⟩ : ∃ B, B = blocks n := ⟨_, rfl⟩
  obtain ⟨z, hz⟩ : ∃ z, z = zeros n := ⟨_, rfl⟩
  have hbz := zeros_blocks n
  rw [← hBl, ← hz] at hbz
  have hz63 : z ≤ 63 := by rw [hz]; unfold zeros; omega
  have ebl := blkI_nat n
  rw [← hBl] at ebl
  have HEB := Lib.hid ebl
  have HK := Lib.hid hk
  have HH := Lib.hid hH
  have HN0 := Lib.hid hn0
  have HH0 := Lib.hid h0
  have HBZ := Lib.hid hbz
  have HZ := Lib.hid hz
  have HLt : Hid (b < w.heap.size) := hB.lt
  have bB : (B : Int) ≤ 1000000000000000 := by omega
  have bn : n ≤ 999999999999000 := hlen
  have hsz : 64 * (B : Int) - n = (z : Int) + 9 := by omega
  have HSZ := Lib.hid hsz
  clear hk hH hn0 h0 hB hr1 hr2 hr3 hBl hz hbz ebl hlen hsz
  have CB : Kp (∀ w, Calls Tryd.prog 101 #[.int .i64 n] w fun r w' => r = .returned (.int .i64 B) ∧ w' = w) := ⟨fun w => by have := blocks_any n w (by omega); rw [HEB.out] at this; exact this⟩
  have h8n : 8 * (n : Int) % 18446744073709551616 = (n : Int) * 8 := by omega
  have H8 := Kp.mk h8n
  clear h8n
  go_enter Tryd.func89, Tryd.ntmps89
  go_wp2_with fail
  refine wp_world (fun W => Row W w.heap.size 156 .u8 (fill 128 []) ∧ Below w.heap.size w W) ⟨Blk.newAt _ rfl, more (Below.refl _ _) _⟩ ?_
  rintro w2 ⟨hr, hb⟩
  have c72' : w2.cell? ⟨b, 72, none⟩ = some (.int .i64 n) := (World.cell?_of_block (w := w) (a := ⟨b, 72, none⟩) (hb.block b HLt.out)).trans c72
  have HR := Kp.mk hr
  have HB := Kp.mk hb
  clear hr hb c72
  go_quiet ((go_at_call 101; exact Calls.quiet_of_same (CB.out _)))
  have HR2 := Kp.mk (HR.out.drewN nq)
  have HB2 := Kp.mk (below_drewN HB.out nq)
  clear c72' HR HB
  generalize w2.drewN nq = w3 at *
  have cw := HR2.out.cell (i := 0) (by rw [fill_len (by simp)]; omega)
  have fw := HR2.out.frozen 0
  go_wp2_with fail
  have hsz : (B : Int) * 64 - n = (z : Int) + 9 := by have := HSZ.out; omega
  rw [hsz]
  clear hsz cw fw
  generalize hE : (n : Int) * 8 = E
  have e0 : 0 ≤ E := by omega
  have e1 : E ≤ 9000000000000000 := by omega
  have HE := Kp.mk hE
  clear hE
  refine wp_world (fun W => Row W w.heap.size 156 .u8 (fill 128 (tl n 0)) ∧ Below w.heap.size w W) ⟨by rw [tl_zero]; exact HR2.out.set 0 128, HB2.out.setCell (by simp) _⟩ ?_
  rintro w4 ⟨hr, hb⟩
  have HR3 := Kp.mk hr
  have HB3 := Kp.mk hb
  clear hr hb HR2 HB2
  go_loopw [24] (fun c wr => ∃ j : Nat, j ≤ 8 ∧ c = .int .i64 j ∧ Row wr w.heap.size 156 .u8 (fill 128 (tl n j)) ∧ Below w.heap.size w wr) (fun c _ => 8 - (intOf c).toNat)
  case atStart => exact ⟨0, by omega, rfl, HR3.out, HB3.out⟩
  case round =>
    obtain ⟨j, hj, rfl, hr, hb⟩ := hrel
    have HR4 := Kp.mk hr
    have HB4 := Kp.mk hb
    clear hr hb HR3 HB3
    by_cases hlt : j < 8
    · have hpl := tl_len n j hj
      rw [← HZ.out] at hpl
      have HPL := Kp.mk hpl
      have cw := HR4.out.cell (i := z + 1 + j) (by rw [fill_len (by omega)]; omega)
      have fw := HR4.out.frozen (z + 1 + j)
      clear hpl
      go_wp2_with fail
      refine ⟨⟨j + 1, by omega, by go_num, ?_, HB4.out.setCell (by simp) _⟩, by simp [intOf]; omega⟩
      refine (HR4.out.set (z + 1 + j) _).as ?_
      rw [tl_succ n j hlt, ← fill_set (by rw [HPL.out]; omega), HPL.out, H8.out, HE.out]
    · have HJ : Kp (j = 8) := ⟨by omega⟩
      have hge : 8 ≤ (j : Int) := by omega
      have hs := slice99 w.heap.size (z + 9) (by omega)
      rw [show ((z + 9 : Nat) : Int) = (z : Int) + 9 by omega] at hs
      have hl : (tl n 8).length = z + 9 := by rw [tl_len n 8 (by omega), HZ.out]
      have HHX : Kp (HoldsX wr b (.slice (some ⟨w.heap.size, 0, none⟩) (z + 9) 128) (tl n 8)) := by
        have hr := HR4.out
        rw [HJ.out] at hr
        refine ⟨(HoldsB.ofRow2 (off := 0) hr hl.symm (by omega) (by unfold maxLen; omega) (fun i hi => ?_) (tl_bytes n 8)), ?_⟩
        · simp only [Nat.zero_add, List.getElem?_toArray, List.getElem?_map]
          have h1 := fill_get (n := 128) hi
          have h2 : i < (fill 128 (tl n 8)).length := by rw [fill_len (by omega)]; omega
          rw [List.getD_eq_getElem?_getD, List.getElem?_eq_getElem h2] at h1
          rw [List.getElem?_eq_getElem h2, ← h1]
          rfl
        · intro x k c he _
          simp only [Value.slice.injEq, Option.some.injEq] at he
          rw [← he.1]
          have := HLt.out
          show w.heap.size ≠ b
          omega
      have HL := Kp.mk hl
      clear hlt hj hl
      go_wp2_with fail
      refine (write_any b l (tl n 8) _ wr (HK.out.keep HB4.out) HH0.out (HH.out.keep HB4.out) HHX.out (by rw [HL.out, ← HN0.out]; omega)).mono ?_
      rintro r w5 ⟨rfl, h5⟩
      have H5 := Kp.mk h5
      clear h5
      go_wp2_with fail
      go_end0
      obtain ⟨rest', q1, q2, q3, q4⟩ := H5.out
      have e : l ++ tl n 8 = pad l := by unfold pad; rw [tl_full, HN0.out]
      rw [e] at q3 q4
      exact ⟨rfl, rest', q1, q2, q3, Turn.ahead HB4.out q4⟩
end Go.Proofs.YtpljjmdkagbjpaaDoor
