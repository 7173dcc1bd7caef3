/-
  ots.named.
-/
import Derived.Test.YtpljjmdkagbjpaaDoorNum
import Derived.Test.YtpljjmdkagbjpaaDoorShortR
import Derived.Test.YtpljjmdkagbjpaaDoorEq
namespace Go.Proofs.YtpljjmdkagbjpaaDoor
open Go.RowKit

theorem wp_assign_end {P : Program} {o : Oper} {a : Act} {w : World} {K : Act → World → Prop} {Q : Exit → Act → World → Prop} {x : Operand} {v : Value} (ho : o.op = .assign x) (hx : a.eval x = v) (h : K (a.put o.dst v) w) : o.wp P a w K Q := by
  unfold Oper.wp execOp
  simp only [ho, hx, Sem.run_pure]
  exact h

/-- A name as bytes. -/
def headL (d x : Int) : List Int := d % 256 :: numL x 4
theorem headL_is (d x : Int) : headL d x = [d % 256, x / 16777216 % 256, x / 65536 % 256, x / 256 % 256, x % 256] := by
  unfold headL numL
  simp [List.range, List.range.loop]
theorem headL_len (d x : Int) : (headL d x).length = 5 := by rw [headL_is]; rfl
theorem headL_bytes (d x : Int) : Bytes (headL d x) := by
  rw [headL_is]
  intro y hy
  simp only [List.mem_cons, List.not_mem_nil, or_false] at hy
  rcases hy with rfl | rfl | rfl | rfl | rfl <;> omega
abbrev nameV (d x : Int) : Value := .agg #[.int .i64 d, .int .u32 x]
set_option maxHeartbeats 2000000 in
theorem named_any (d x : Int) (w : World) (hx : 0 ≤ x ∧ x < 4294967296) :
    Calls Tryd.prog 43 #[nameV d x] w fun q w' => ∃ v', q = .returned v' ∧ HoldsB w' w'.heap.size v' (headL d x) ∧ Below w.heap.size w w' := by
  obtain ⟨h0, h1⟩ := hx
  obtain ⟨l, hl⟩ : ∃ l, l = headL d x := ⟨_, rfl⟩
  rw [← hl]
  have HL := Kp.mk hl
  clear hl
  go_enter Tryd.func43, Tryd.ntmps43
  go_wp2_with fail
  go_ret
  have hr : Row ((w.alloc (.cells #[.int .i64 d, .int .u32 x] 29)).alloc (.cells #[.int .u8 (d % 256), .int .u8 (x / 16777216), .int .u8 (x / 65536 % 256), .int .u8 (x / 256 % 256), .int .u8 (x % 256)] 5)) (w.heap.size + 1) 5 .u8 l := by
    rw [HL.out, headL_is, show x / 16777216 % 256 = x / 16777216 by omega]
    exact Blk.newAt _ (by simp)
  have hb := HoldsB.ofBytes hr (by rw [HL.out]; exact headL_bytes d x) (by rw [HL.out, headL_len]; unfold maxLen; omega)
  rw [show l.length = 5 by rw [HL.out, headL_len]] at hb
  exact ⟨_, rfl, hb, more (more (Below.refl _ _) _) _⟩
end Go.Proofs.YtpljjmdkagbjpaaDoor
