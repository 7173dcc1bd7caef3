/-
  The law ShaEdges, walked.
-/
import Derived.Test.YtkdejiggblngkaaDoorLSums
import Derived.OwnWalk
namespace Go.Proofs.YtkdejiggblngkaaDoor
open Go.RowKit

theorem madeCells_bytes (n : Nat) : (madeCells #[Value.int .u8 0] n).toList = kv .u8 (List.replicate n 0) := by
  apply List.ext_getElem
  · simp [madeCells]
  · intro i h1 h2
    simp [madeCells, Nat.mod_one]
/-- A row of bytes that a make laid, as an array in memory. -/
theorem row_of_made {w : World} {base b n : Nat} {l : List Int} (h : w.ownsRow base 5 1 (.slice (some ⟨b, 0, none⟩) n n) n (kv .u8 l)) (_hl : l.length = n) : Row w b 5 .u8 l := by
  rcases h.2 with ⟨e, _⟩ | ⟨g, cap, cur, e, hb, hg, h1, h2, h3, h4⟩
  · cases e
  · simp only [Value.slice.injEq, Option.some.injEq, Addr.mk.injEq, and_true, true_and] at e
    obtain ⟨rfl, rfl⟩ := e
    have h5 : cur.toList = kv .u8 l := by
      rw [← h4, List.take_of_length_le (by rw [Array.length_toList]; omega)]
    have h6 : cur = (kv .u8 l).toArray := by rw [← h5]
    rw [h6] at hg
    exact hg
set_option maxRecDepth 100000 in
set_option maxHeartbeats 1000000 in
theorem shaEdges_walk (x0 x1 x2 : Int) (w : World) (w0 : (Lit.int .u8 x0).wf = true) (w1 : (Lit.int .u8 x1).wf = true) (w2 : (Lit.int .u8 x2).wf = true) (hk : KonIs w) :
    Calls Tryd.prog 4 #[.int .u8 x0, .int .u8 x1, .int .u8 x2] w fun e w' => e = .returned (.bool true) ∧ Below w.heap.size w w' := by
  have h1 : IntKind.u8.min = 0 := rfl
  have h2 : IntKind.u8.max = 255 := rfl
  simp [Lit.wf, h1, h2] at w0 w1 w2
  have HK := Kp.mk hk
  clear hk h1 h2
  obtain ⟨n, hn⟩ : ∃ n : Nat, x0 % 201 = n := ⟨(x0 % 201).toNat, by omega⟩
  have hnb : n ≤ 200 := by omega
  obtain ⟨i0, hi, hz0, hz1, hz2⟩ := info_parts info5
  have hb5 : i0.bytes * n ≤ 281474976710656 := by rw [hz2]; omega
  have hm : n ≤ maxLen := by unfold maxLen; omega
  have HN := Kp.mk hm
  have HI := Kp.mk hi
  have HI0 := Kp.mk hz0
  have HI1 := Kp.mk hz1
  have HB5 := Kp.mk hb5
  clear hi hz0 hz1 hz2 hb5 hm
  go_enter Tryd.func4, Tryd.ntmps4
  go_wp2_with (refine wpList_make_full _ rfl _ _ 22 rfl w.heap.size 5 i0 (.int .u8 0) 1 Tryd.underlying22 HI.out HI0.out HI1.out _ _ _ _ n rfl rfl hn hn HB5.out HN.out (Nat.le_refl _) ?_)
  intro w3 ho hg
  rw [madeCells_bytes] at ho
  have hr := row_of_made ho (by simp)
  have hbel : Below w.heap.size w w3 := ⟨hg.os, hg.tape, hg.output, hg.size, fun k hk => hg.block k hk (by simp)⟩
  have HR := Kp.mk hr
  have HB := Kp.mk hbel
  clear ho hg hr hbel
  obtain ⟨P, hP⟩ : ∃ P, P = w.heap.size := ⟨_, rfl⟩
  have HP := Kp.mk hP
  rw [← hP] at HR HB ⊢
  clear hP
  go_wp2_with fail
  go_loopw [1, 15] (fun f c wr => ∃ (i : Nat) (y : Int) (l : List Int), i ≤ n ∧ c = .int .i64 i ∧ f = .int .u8 y ∧ (0 ≤ y ∧ y ≤ 255) ∧ Kp (l.length = n) ∧ Bytes l ∧ Row wr P 5 .u8 l ∧ Below P w wr) (fun _ c _ => n - (intOf c).toNat)
  case atStart => exact ⟨0, x1, List.replicate n 0, by omega, rfl, rfl, w1, ⟨by simp⟩, zeros_bytes n, HR.out, HB.out⟩
  case round =>
    obtain ⟨i, y, l, hi, rfl, rfl, hy, HL, hb, hr, hbe⟩ := hrel
    have G1 := Kp.mk hb
    have G2 := Kp.mk hr
    have G3 := Kp.mk hbe
    clear hb hr hbe HR HB
    by_cases hlt : i < n
    · have cw := G2.out.cell (i := i) (by rw [HL.out]; exact hlt)
      have fw := G2.out.frozen i
      go_wp2_with fail
      refine ⟨⟨i + 1, _, l.set i y, by omega, by go_num, rfl, ?_, ⟨by rw [List.length_set]; exact HL.out⟩, ?_, G2.out.set i y, G3.out.setCell (Nat.le_refl _) _⟩, by simp [intOf]; omega⟩
      · omega
      · intro z hz
        rcases List.mem_or_eq_of_mem_set hz with h | h
        · exact G1.out z h
        · omega
    · have hge : (n : Int) ≤ i := by omega
      have HH : Kp (HoldsB wr wr.heap.size (.slice (some ⟨P, 0, none⟩) n n) l) := by
        have h := HoldsB.ofBytes G2.out G1.out (by rw [HL.out]; exact HN.out)
        rw [HL.out] at h
        exact ⟨h⟩
      have HK2 : Kp (KonIs wr) := ⟨HK.out.keep (by have h := G3.out; rw [HP.out] at h; exact h)⟩
      clear hlt hi
      go_wp2_with fail
      refine (awake4 wr HK2.out).mono ?_
      rintro r wa ⟨rfl, h1⟩
      have H1 := Kp.mk h1
      clear h1
      go_wp2_with fail
      refine (sum_any _ _ l wa (HK2.out.keep H1.out) (HH.out.keep H1.out) (by rw [HL.out]; omega)).mono ?_
      rintro r wb ⟨rfl, h2⟩
      have H2 : Kp (Below wr.heap.size wr wb) := ⟨H1.out.trans (h2.mono H1.out.size)⟩
      clear h2
      go_wp2_with fail
      refine (rsum_any _ _ l wb (HH.out.keep H2.out) (by rw [HL.out]; omega)).mono ?_
      rintro r wc ⟨rfl, h3⟩
      have H3 : Kp (Below wr.heap.size wr wc) := ⟨H2.out.trans (h3.mono H2.out.size)⟩
      have hq := fun w => eql25 (digest_bytes l) (digest_len l) w
      have hg := eqg25
      clear h3
      generalize digest l = d at *
      go_wp2_with fail
      clear hq hg
      refine (blocks_any n _ (by omega)).mono ?_
      rintro r wd ⟨rfl, rfl⟩
      go_wp2_with fail
      refine (pad_any _ _ l _ (HH.out.keep H3.out) (by rw [HL.out]; omega)).mono ?_
      rintro r we ⟨v', rfl, ho, hb⟩
      obtain ⟨L, hL⟩ : ∃ L, L = (pad l).length := ⟨_, rfl⟩
      rw [← hL] at ho
      obtain ⟨ap, cp, rfl⟩ := row_slice ho
      have H4 : Kp (Below wr.heap.size wr we) := ⟨H3.out.trans (hb.mono H3.out.size)⟩
      have hlb : L ≤ 1000 := by rw [hL, pad_len, HL.out]; unfold blocks; split <;> omega
      have e : blkI n = (L : Int) / 64 := by rw [hL, pad_len, HL.out, blkI_nat]; omega
      rw [e]
      clear ho hb hL e
      go_wp2_with fail
      go_ret
      exact ⟨rfl, by have h := G3.out.trans (H4.out.mono (by have := G2.out.lt; omega)); rw [HP.out] at h; exact h⟩
end Go.Proofs.YtkdejiggblngkaaDoor
