/-
  What tolls may be; the rules of neighbours.
-/
import Derived.Test.YtcppmkblllappaaDoorCfG
namespace Go.Proofs.YtcppmkblllappaaDoor
open Go.RowKit

set_option maxRecDepth 100000 in
theorem toll_any (a b c d : Int) (ha1 : 1 ≤ a) (ha2 : a ≤ 1073741824) (hb1 : 0 ≤ b) (hb2 : b ≤ 1073741824) (hc1 : 1 ≤ c) (hc2 : c ≤ 1073741824) (hd1 : 0 ≤ d) (hd2 : d ≤ 1073741824) (w : World) :
    Calls Tryd.prog 37 #[.agg #[.int .i64 a, .int .i64 b, .int .i64 c, .int .i64 d]] w (TPost w) := by
  obtain ⟨B, hB⟩ : ∃ B, B = w.heap.size := ⟨_, rfl⟩
  have HB := Kp.mk hB
  clear hB
  go_enter Tryd.func37, Tryd.ntmps37
  go_upto_region 3 with fail
  rw [← HB.out]
  obtain ⟨w2, hw2⟩ : ∃ w2, w2 = (w.alloc (.cells #[.int .i64 a, .int .i64 b, .int .i64 c, .int .i64 d] 25)).alloc (.cells #[.int .i64 1, .int .i64 0, .int .i64 1, .int .i64 0] 96) := ⟨_, rfl⟩
  have K2 : Kp (Blk w2 (B + 1) (.cells #[.int .i64 1, .int .i64 0, .int .i64 1, .int .i64 0] 96) ∧ Below w.heap.size w w2) := ⟨by rw [hw2]; exact Blk.newAt _ (by rw [HB.out]; simp), by rw [hw2]; exact more (more (Below.refl _ _) _) _⟩
  rw [← hw2]
  clear hw2
  go_loopw [16] (fun ct wr => ∃ j : Int, (j = 0 ∨ j = 1 ∨ j = 2 ∨ j = 3 ∨ j = 4) ∧ ct = .int .i64 j ∧ Kp (Blk wr (B + 1) (.cells #[.int .i64 1, .int .i64 0, .int .i64 1, .int .i64 0] 96) ∧ Below w.heap.size w wr)) (fun ct _ => 4 - (intOf ct).toNat)
  case atStart => exact ⟨0, .inl rfl, rfl, K2⟩
  case round =>
    clear K2
    obtain ⟨j, e, rfl, K3⟩ := hrel
    have c0 : wr.cell? ⟨B + 1, 0, none⟩ = some (.int .i64 1) := K3.out.1.cell 0
    have c1 : wr.cell? ⟨B + 1, 1, none⟩ = some (.int .i64 0) := K3.out.1.cell 1
    have c2 : wr.cell? ⟨B + 1, 2, none⟩ = some (.int .i64 1) := K3.out.1.cell 2
    have c3 : wr.cell? ⟨B + 1, 3, none⟩ = some (.int .i64 0) := K3.out.1.cell 3
    have i0 : ∀ w, (Instr.index 96 (.agg #[.int .i64 a, .int .i64 b, .int .i64 c, .int .i64 d]) (.int .i64 0)).run Tryd.prog w = .ok (.int .i64 a) w := fun w => by kernel_rfl
    have i1 : ∀ w, (Instr.index 96 (.agg #[.int .i64 a, .int .i64 b, .int .i64 c, .int .i64 d]) (.int .i64 1)).run Tryd.prog w = .ok (.int .i64 b) w := fun w => by kernel_rfl
    have i2 : ∀ w, (Instr.index 96 (.agg #[.int .i64 a, .int .i64 b, .int .i64 c, .int .i64 d]) (.int .i64 2)).run Tryd.prog w = .ok (.int .i64 c) w := fun w => by kernel_rfl
    have i3 : ∀ w, (Instr.index 96 (.agg #[.int .i64 a, .int .i64 b, .int .i64 c, .int .i64 d]) (.int .i64 3)).run Tryd.prog w = .ok (.int .i64 d) w := fun w => by kernel_rfl
    rcases e with rfl | rfl | rfl | rfl | rfl
    · go_wp2_with fail
      exact ⟨⟨1, by simp, rfl, K3⟩, by decide⟩
    · go_wp2_with fail
      exact ⟨⟨2, by simp, rfl, K3⟩, by decide⟩
    · go_wp2_with fail
      exact ⟨⟨3, by simp, rfl, K3⟩, by decide⟩
    · go_wp2_with fail
      exact ⟨⟨4, by simp, rfl, K3⟩, by decide⟩
    · go_wp2_with fail
      go_ret
      exact ⟨rfl, K3.out.2⟩
theorem peer_any (x y a b c d : Int) (hx1 : 1 ≤ x) (hx2 : x ≤ 1048576) (hy1 : 1 ≤ y) (hy2 : y ≤ 64) (ha1 : 1 ≤ a) (ha2 : a ≤ 1073741824) (hb1 : 0 ≤ b) (hb2 : b ≤ 1073741824) (hc1 : 1 ≤ c) (hc2 : c ≤ 1073741824) (hd1 : 0 ≤ d) (hd2 : d ≤ 1073741824) (w : World) :
    Calls Tryd.prog 20 #[.agg #[.int .i64 x, .int .i64 y, .int .i64 a, .int .i64 b, .int .i64 c, .int .i64 d]] w (TPost w) := by
  have HT := fun wx => toll_any a b c d ha1 ha2 hb1 hb2 hc1 hc2 hd1 hd2 wx
  clear ha1 ha2 hb1 hb2 hc1 hc2 hd1 hd2
  go_enter Tryd.func20, Tryd.ntmps20
  go_wp2_with fail
  refine (HT _).mono ?_
  rintro r w1 ⟨rfl, hb⟩
  have K1 : Kp (Below w.heap.size w w1) := ⟨(more (Below.refl _ _) _).trans (hb.mono (by simp))⟩
  clear HT hb
  go_wp2_with fail
  go_ret
  exact ⟨rfl, K1.out⟩
end Go.Proofs.YtcppmkblllappaaDoor
