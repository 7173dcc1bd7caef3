/-
  mac.Short.
-/
import Derived.Test.YtpljjmdkagbjpaaDoorMore
import Derived.Test.YtpljjmdkagbjpaaDoorTag
namespace Go.Proofs.YtpljjmdkagbjpaaDoor
open Go.RowKit

theorem flat_take (zs : List (List Int)) (i : Nat) (h : i < zs.length) : (zs.take (i + 1)).flatten = (zs.take i).flatten ++ zs.getD i [] := by
  rw [List.take_succ_eq_append_getElem h, List.flatten_append, List.getD_eq_getElem?_getD, List.getElem?_eq_getElem h]
  simp
theorem flat_le (zs : List (List Int)) (i : Nat) : (zs.take i).flatten.length ≤ zs.flatten.length := by
  have h := congrArg (fun l => List.length (List.flatten l)) (List.take_append_drop i zs)
  simp only [List.flatten_append, List.length_append] at h
  omega
theorem flat_le2 (zs : List (List Int)) (i : Nat) (h : i < zs.length) : (zs.take i).flatten.length + (zs.getD i []).length ≤ zs.flatten.length := by
  have := flat_le zs (i + 1)
  rw [flat_take zs i h, List.length_append] at this
  exact this
/-- The short sum of a text. -/
abbrev shortL (t : List Int) : List Int := halfL (digest t)
theorem shortL_len (t : List Int) : (shortL t).length = 16 := halfL_len (digest_len t)
theorem shortL_bytes (t : List Int) : Bytes (shortL t) := (bytes_bytes _).take 16
set_option maxRecDepth 100000 in
set_option maxHeartbeats 1000000 in
theorem short_any (k : Int) (a0 : Option Addr) (n cap : Nat) (zs : List (List Int)) (w : World) (hk : KonIs w) (h8 : 0 ≤ k ∧ k ≤ 255) (hp : HoldsP w (.slice a0 n cap) zs) (hlen : 1 + zs.flatten.length ≤ 999999999990000) :
    Calls Tryd.prog 42 #[.int .u8 k, .slice a0 n cap] w fun r w' => r = .returned (.agg (kv .u8 (shortL (k :: zs.flatten))).toArray) ∧ Below w.heap.size w w' := by
  have hl : zs.length = n := by obtain ⟨a', n', c', e, hn⟩ := hp.slice; simp only [Value.slice.injEq] at e; omega
  have hlm : n ≤ maxLen := by obtain ⟨_, _, _, h2, _⟩ := hp; omega
  unfold maxLen at hlm
  have HK := Kp.mk hk
  have H8 := Kp.mk h8
  have HP := Kp.mk hp
  have HL := Kp.mk hl
  have HLen := Kp.mk hlen
  have HP0 := Kp.mk hk.pos
  clear hk h8 hp hl hlen
  go_enter Tryd.func42, Tryd.ntmps42
  go_wp2_with fail
  obtain ⟨A, hA⟩ : ∃ A, A = w.heap.size := ⟨_, rfl⟩
  have HA := Kp.mk hA
  rw [← hA]
  refine calls_world (fun W => Row W A 27 .u8 (fill 16 []) ∧ Below A w W ∧ A < W.heap.size) ⟨Blk.newAt (w := w) z50 hA, by rw [hA]; exact more (Below.refl _ _) z50, by rw [hA]; simp⟩ ?_
  rintro w1 ⟨hr, hb, hsz⟩
  have HR := Kp.mk hr
  have HB := Kp.mk hb
  have HS := Kp.mk hsz
  clear hr hb hsz hA
  refine (new_any w1).mono ?_
  rintro r w2 ⟨rfl, hh, hb⟩
  obtain ⟨D, hD⟩ : ∃ D, D = w1.heap.size := ⟨_, rfl⟩
  rw [← hD] at hh hb ⊢
  have HH := Kp.mk hh
  have HB2 : Kp (Below A w w2) := ⟨HB.out.trans (hb.mono (by rw [hD]; exact Nat.le_of_lt HS.out))⟩
  have HR2 := Kp.mk (HR.out.keep (by rw [← hD]; exact hb))
  have HAD : Kp (A < D) := ⟨by rw [hD]; exact HS.out⟩
  clear hh hb hD HR HB HS
  go_wp2_with fail
  have HX := Kp.mk (show HoldsX (w2.alloc (.cells #[.int .u8 k] 5)) D (.slice (some ⟨w2.heap.size, 0, none⟩) 1 1) [k] from ⟨one_holds w2 k H8.out, by
    intro x c c' he h0
    simp only [Value.slice.injEq, Option.some.injEq] at he
    rw [← he.1]
    have := HH.out.lt
    show w2.heap.size ≠ D
    omega⟩)
  have HB3 : Kp (Below A w (w2.alloc (.cells #[.int .u8 k] 5))) := ⟨HB2.out.alloc (by have := HR2.out.lt; omega) _⟩
  have HKa : Kp (KonIs (w2.alloc (.cells #[.int .u8 k] 5))) := ⟨HK.out.keep (by rw [← HA.out]; exact HB3.out)⟩
  have HRa := Kp.mk (HR2.out.alloc (.cells #[.int .u8 k] 5))
  have HHa : Kp (HashIs (w2.alloc (.cells #[.int .u8 k] 5)) D []) := ⟨HH.out.keep (more (Below.refl _ _) _)⟩
  generalize w2.alloc (.cells #[.int .u8 k] 5) = W3 at *
  refine (write_any D [] [k] _ W3 HKa.out (by have := HAD.out; omega) HHa.out HX.out (by simp)).mono ?_
  rintro r w4 ⟨rfl, h4⟩
  obtain ⟨rest', q1, q2, q3, hT⟩ := h4
  have HI4 : Kp (HashIs w4 D ([] ++ [k])) := ⟨⟨rest', q1, q2, q3, hT.blk⟩⟩
  have HB4 : Kp (Below A w w4) := ⟨HB3.out.trans (hT.below (Nat.le_of_lt HAD.out) (by have := HRa.out.lt; omega))⟩
  have HR4 := Kp.mk (show Row w4 A 27 .u8 (fill 16 []) from hT.keep HRa.out (by have := HAD.out; omega))
  clear q1 q2 q3 hT HX HB3 HKa HRa HHa HH HB2 HR2
  go_wp2_with fail
  go_loopw [15] (fun c wr => ∃ i : Nat, i ≤ n ∧ c = .int .i64 i ∧ HashIs wr D (k :: (zs.take i).flatten) ∧ Row wr A 27 .u8 (fill 16 []) ∧ Below A w wr) (fun c _ => n - (intOf c).toNat)
  case atStart => exact ⟨0, by omega, rfl, by simpa using HI4.out, HR4.out, HB4.out⟩
  case round =>
    obtain ⟨i, hi, rfl, h1, h2, h3⟩ := hrel
    clear HI4 HR4 HB4
    have G1 := Kp.mk h1
    have G2 := Kp.mk h2
    have G3 := Kp.mk h3
    clear h1 h2 h3
    by_cases hlt : i < n
    · obtain ⟨b, off, a1, n1, c1, rfl, hbw, hcell, hp⟩ : ∃ b off a1 n1 c1, a0 = some ⟨b, off, none⟩ ∧ b < w.heap.size ∧ w.cell? ⟨b, off + i, none⟩ = some (.slice a1 n1 c1) ∧ HoldsB w w.heap.size (.slice a1 n1 c1) (zs.getD i []) := by
        obtain ⟨a', cap', e, _, h3⟩ := HP.out
        simp only [Value.slice.injEq] at e
        obtain ⟨rfl, -, -⟩ := e
        obtain ⟨b, off, a1, n1, c1, e1, e2, e3, e4⟩ := h3 i (by rw [HL.out]; exact hlt)
        exact ⟨b, off, a1, n1, c1, e1, e2, e3, e4⟩
      have hc : wr.cell? ⟨b, off + i, none⟩ = some (.slice a1 n1 c1) := (World.cell?_of_block (w := w) (a := ⟨b, off + i, none⟩) (G3.out.block b (by rw [HA.out]; exact hbw))).trans hcell
      have HPp := Kp.mk hp
      have HFT := Kp.mk (flat_take zs i (by rw [HL.out]; exact hlt))
      have HF2 := Kp.mk (flat_le2 zs i (by rw [HL.out]; exact hlt))
      clear hcell hbw hp
      generalize zs.getD i [] = p at *
      generalize hQ : (zs.take i).flatten = q at *
      have HQq := Kp.mk hQ
      clear hQ
      go_wp2_with fail
      refine (write_any D (k :: q) p _ wr (HK.out.keep (by rw [← HA.out]; exact G3.out)) (by have := HAD.out; omega) G1.out (HPp.out.apart (by rw [← HA.out]; exact G3.out) (by rw [← HA.out]; exact Nat.le_of_lt HAD.out)) (by rw [List.length_cons]; have := HF2.out; have := HLen.out; omega)).mono ?_
      rintro r w5 ⟨rfl, h5⟩
      obtain ⟨rest', q1, q2, q3, hT⟩ := h5
      have HI5 : Kp (HashIs w5 D (k :: (zs.take (i + 1)).flatten)) := ⟨by rw [HFT.out, ← List.cons_append]; exact ⟨rest', q1, q2, q3, hT.blk⟩⟩
      have HB5 : Kp (Below A w w5) := ⟨G3.out.trans (hT.below (Nat.le_of_lt HAD.out) (by have := G2.out.lt; omega))⟩
      have HR5 := Kp.mk (show Row w5 A 27 .u8 (fill 16 []) from hT.keep G2.out (by have := HAD.out; omega))
      clear q1 q2 q3 hT hc
      go_wp2_with fail
      exact ⟨⟨i + 1, by omega, by go_num, HI5.out, HR5.out, HB5.out⟩, by simp [intOf]; omega⟩
    · have hge : (n : Int) ≤ i := by omega
      have G1' : Kp (HashIs wr D (k :: zs.flatten)) := ⟨by have h := G1.out; rw [List.take_of_length_le (by have := HL.out; omega)] at h; exact h⟩
      clear hlt hi
      go_wp2_with fail
      refine (hsum_any D (k :: zs.flatten) wr (HK.out.keep (by rw [← HA.out]; exact G3.out)) (by have := HAD.out; omega) G1'.out (by rw [List.length_cons]; have := HLen.out; omega)).mono ?_
      rintro r w6 ⟨rfl, h6⟩
      have HR6 := Kp.mk (G2.out.keep h6)
      have HB6 : Kp (Below A w w6) := ⟨G3.out.trans (h6.mono (by have := G2.out.lt; omega))⟩
      have HM := Kp.mk (digest_len (k :: zs.flatten))
      obtain ⟨d, hd⟩ : ∃ d, d = digest (k :: zs.flatten) := ⟨_, rfl⟩
      have HD := Kp.mk (show shortL (k :: zs.flatten) = halfL d by rw [hd])
      rw [← hd] at HM ⊢
      clear h6 hd
      go_wp2_with fail
      refine (half_any d w6 HM.out).mono ?_
      rintro r w7 ⟨rfl, h7⟩
      have HR7 := Kp.mk (HR6.out.keep h7)
      have HB7 : Kp (Below A w w7) := ⟨HB6.out.trans (h7.mono (by have := HR6.out.lt; omega))⟩
      have HC := Kp.mk (cells50 (halfL_len HM.out))
      have HZ := Kp.mk (size50 (halfL_len HM.out))
      have HF := Kp.mk (HR7.out.setRow (halfL d))
      have HBf := Kp.mk (Below.row HB7.out (g := A) (Nat.le_refl _) (kv .u8 (halfL d)).toArray)
      clear h7
      go_wp2_with (refine wpList_store_row rfl 27 (.tmp 4) (.tmp 25) rfl A (kv .u8 (halfL d)).toArray rfl rfl 27 _ HR7.out HC.out HZ.out (kv_all _ _) ?_)
      refine bodyPost_ret (v := .agg (kv .u8 (halfL d)).toArray) ?_ rfl ⟨by rw [HD.out], by rw [← HA.out]; exact HBf.out⟩
      exact results_cell_row rfl _ _ A 27 _ (0, 0) _ rfl HF.out Tryd.underlying27 rfl HC.out
end Go.Proofs.YtpljjmdkagbjpaaDoor
