/-
  The document's Out: Blob.
-/
import Derived.Test.YtioeaknhcfkfcaaOutM
namespace Go.Proofs.Ytioeaknhcfkfcaa
open Go.RowKit

theorem rraw_out (M : Nat) (v s : Value) (l p : List Int) (f : Bool) (w : World) (h : HoldsB w M v l) (hs : HoldsB w M s p) (hlen : l.length + p.length ≤ 1099511627776) :
    Calls Try.prog 48 #[routV v f, s] w (ROutPost v (l ++ p) f w) :=
  (rraw_any M v s l p f w h hs hlen).mono fun _ _ ⟨v', e, ho, hb⟩ => ⟨v', e, HoldsB.ofRow (h.bytes.append hs.bytes) ho, .inr ho, hb⟩
set_option maxHeartbeats 3200000 in
theorem roblob_any (M : Nat) (v s : Value) (l p : List Int) (f : Bool) (w : World) (h : HoldsB w M v l) (hs : HoldsB w M s p) (hM : M ≤ w.heap.size) (hlen : l.length ≤ 1000000000) :
    Calls Try.prog 67 #[routV v f, s] w (ROutPost v (if 4096 < p.length then l else l ++ digs p.length 2 ++ p) (f || decide (4096 < p.length)) w) := by
  have H := Lib.hid h
  have HS := Lib.hid hs
  obtain ⟨a, m, cap, rfl, -⟩ := h.slice
  obtain ⟨a2, m2, cap2, rfl, hm2⟩ := hs.slice
  have hpl := hs.len
  unfold maxLen at hpl
  have HM2 := Lib.hid hm2
  have hm3 : m2 ≤ 9223372036854775807 := by omega
  obtain ⟨LL, hLL⟩ : ∃ x, x = (if 4096 < p.length then l else l ++ digs p.length 2 ++ p) := ⟨_, rfl⟩
  obtain ⟨FF, hFF⟩ : ∃ x, x = (f || decide (4096 < p.length)) := ⟨_, rfl⟩
  rw [← hLL, ← hFF]
  have HLL := Lib.hid hLL
  have HFF := Lib.hid hFF
  have HB : Hid (Below w.heap.size w ((w.alloc (.cells #[.slice a m cap, .bool f] 112)).alloc (.cells #[.slice none 0 0, .bool false] 112))) := more (more (Below.refl _ _) _) _
  have hA : Blk ((w.alloc (.cells #[.slice a m cap, .bool f] 112)).alloc (.cells #[.slice none 0 0, .bool false] 112)) w.heap.size (.cells #[.slice a m cap, .bool f] 112) := (Blk.new _ _).old _
  have hR : Blk ((w.alloc (.cells #[.slice a m cap, .bool f] 112)).alloc (.cells #[.slice none 0 0, .bool false] 112)) (w.heap.size + 1) (.cells #[.slice none 0 0, .bool false] 112) := Blk.newAt _ (by simp)
  have HA := Lib.hid hA
  have HR := Lib.hid hR
  have hs2 : ((w.alloc (.cells #[.slice a m cap, .bool f] 112)).alloc (.cells #[.slice none 0 0, .bool false] 112)).heap.size = w.heap.size + 2 := by simp
  clear h hs hLL hFF hpl
  by_cases hbig : 4096 < m2
  · have HE : Hid (LL = l ∧ FF = true) := ⟨HLL.out.trans (if_pos (by omega)), HFF.out.trans (by rw [decide_eq_true (by omega), Bool.or_true])⟩
    clear hm2
    go_enter Try.func67, Try.ntmps67
    go_wp2_with fail
    have hE2 := HE.out
    have hBF : Below w.heap.size w ((w.alloc (.cells #[.slice a m cap, .bool true] 112)).alloc (.cells #[.slice a m cap, .bool true] 112)) := more (more (Below.refl _ _) _) _
    have hRF : Blk ((w.alloc (.cells #[.slice a m cap, .bool true] 112)).alloc (.cells #[.slice a m cap, .bool true] 112)) (w.heap.size + 1) (.cells #[.slice a m cap, .bool true] 112) := Blk.newAt _ (by simp)
    refine bodyPost_ret (v := routV (.slice a m cap) true) (results_cell_row Try.results67 _ _ (w.heap.size + 1) 112 #[.slice a m cap, .bool true] (0, 0) _ rfl hRF Try.underlying112 rfl info28) rfl ⟨_, by rw [hE2.2], by rw [hE2.1]; exact (H.out.keep hBF).mono (by have := hBF.size; omega), .inl rfl, hBF⟩
  · have hE : Hid (LL = l ++ digs p.length 2 ++ p ∧ FF = f ∧ numF f p.length 2 = f ∧ ¬ (256 : Int) ^ 2 ≤ p.length) := by
      have h2 : ¬ (256 ^ 2 : Int) ≤ p.length := by simp; omega
      exact ⟨HLL.out.trans (if_neg (by omega)), HFF.out.trans (by rw [decide_eq_false (by omega), Bool.or_false]), by unfold numF; rw [decide_eq_false h2, Bool.or_false], h2⟩
    clear hm2
    go_enter Try.func67, Try.ntmps67
    go_wp2_with fail
    generalize (w.alloc (.cells #[.slice a m cap, .bool f] 112)).alloc (.cells #[.slice none 0 0, .bool false] 112) = W at HB HA HR hA hR hs2 ⊢
    refine (rnum_any M _ l f m2 2 W (H.out.keep HB.out) (by omega) (by omega) (by omega) (by omega) (by omega)).mono ?_
    rintro r w1 ⟨v1, rfl, h1, -, hb1⟩
    rw [HM2.out, if_neg (show ¬ (256 : Int) ^ 2 ≤ p.length by have := hE.out.2.2.2; omega)] at h1
    rw [show numF f (m2 : Int) 2 = f by rw [HM2.out]; exact hE.out.2.2.1]
    have H1 := Lib.hid h1
    have HB1 : Hid (Below w.heap.size w w1) := HB.out.trans (hb1.mono (by omega))
    have HR1 := Lib.hid (hR.keep hb1)
    clear h1
    go_wp2_with fail
    refine (rraw_any w1.heap.size v1 _ _ p f w1 H1.out ((HS.out.keep HB1.out).mono (by have := HB1.out.size; omega)) ?_).mono ?_
    · rw [List.length_append, digs_len]; have := HM2.out; omega
    rintro r w2 ⟨v2, rfl, h2, hb2⟩
    have H2 := Lib.hid h2
    have HB2 : Hid (Below w.heap.size w w2) := HB1.out.trans (hb2.mono (by have := HB1.out.size; omega))
    have hR2 := HR1.out.keep hb2
    have HR2 := Lib.hid hR2
    obtain ⟨a5, n5, c5, rfl⟩ := row_shapeF h2
    have hs1 := HR1.out.lt
    obtain ⟨d0, d1, g0, g1⟩ := hR2.two
    have lt2 := hR2.lt
    clear h2 hb2 hR2 hA hR hb1
    go_wp2_with fail
    have hRF := (HR2.out.set 0 (.slice a5 n5 c5)).set 1 (.bool f)
    have hTR := (((Turn.same HR2.out).set 0 (.slice a5 n5 c5)).set 1 (.bool f)).below (B := w.heap.size) (by omega) (by omega)
    have hBF := HB2.out.trans hTR
    have hb := (H1.out.bytes).append HS.out.bytes
    have hrow := ownsRow_setCell_below (ownsRow_setCell_below H2.out (a := ⟨w.heap.size + 1, 0, none⟩) hs1 (.slice a5 n5 c5)) (a := ⟨w.heap.size + 1, 1, none⟩) hs1 (.bool f)
    refine bodyPost_ret (v := routV (.slice a5 n5 c5) f) (results_cell_row Try.results67 _ _ (w.heap.size + 1) 112 #[.slice a5 n5 c5, .bool f] (0, 0) _ rfl hRF Try.underlying112 rfl info28) rfl ⟨_, by rw [hE.out.2.1], by rw [hE.out.1]; exact HoldsB.ofRow hb hrow, .inr (by rw [hE.out.1]; exact row_monoF hrow (by omega)), hBF⟩
end Go.Proofs.Ytioeaknhcfkfcaa
