/-
  The calls on a nil In, and the walk of the law FieldNil.
-/
import Derived.Test.YtgpjffchpppceaaNil
import Derived.Test.YtgpjffchpppceaaEq
import Derived.Test.YtgpjffchpppceaaSums
namespace Go.Proofs.Ytgpjffchpppceaa
open Go.RowKit

set_option maxHeartbeats 800000 in
theorem next_nil (k : Nat) (w : World) (hk : k ≤ 65535) : Calls Try.prog 49 #[.pointer none, .int .i64 k] w (Quiet (.slice none 0 0) w) := by
  by_cases h : 0 < k
  · have h' : (0 : Int) < k := by omega
    go_enter Try.func49, Try.ntmps49
    go_wp2_with fail
    refine (left_nil _).mono ?_
    rintro r w1 ⟨rfl, hb1⟩
    go_wp2_with fail
    refine (fail_nil _ _).mono ?_
    rintro r w2 ⟨rfl, hb2⟩
    go_wp2_with fail
    refine (err_nil _).mono ?_
    rintro r w3 ⟨rfl, hb3⟩
    have E := thru (thru hb1 hb2) hb3
    go_wp2_with fail
    go_ret
    exact ⟨rfl, E⟩
  · obtain rfl : k = 0 := by omega
    go_enter Try.func49, Try.ntmps49
    go_wp2_with fail
    refine (left_nil _).mono ?_
    rintro r w1 ⟨rfl, hb1⟩
    go_wp2_with fail
    refine (err_nil _).mono ?_
    rintro r w3 ⟨rfl, hb3⟩
    have E := thru hb1 hb3
    go_wp2_with fail
    go_ret
    exact ⟨rfl, E⟩
set_option maxHeartbeats 800000 in
theorem num_nil (k : Nat) (w : World) (hk : k ≤ 8) : Calls Try.prog 48 #[.pointer none, .int .i64 k] w (Quiet (.int .u64 0) w) := by
  go_enter Try.func48, Try.ntmps48
  go_wp2_with fail
  refine (next_nil k _ (by omega)).mono ?_
  rintro r w1 ⟨rfl, hb⟩
  have HB := Lib.hid hb
  clear hb
  go_wp2_with fail
  go_loopw [5, 12] (fun m c wr => m = .int .u64 0 ∧ c = .int .i64 0 ∧ wr = w1) (fun _ _ _ => 0)
  case atStart => exact ⟨rfl, rfl, rfl⟩
  case round =>
    obtain ⟨rfl, rfl, rfl⟩ := hrel
    go_wp2_with fail
    go_ret
    exact ⟨rfl, HB.out⟩
theorem u8i_nil (w : World) : Calls Try.prog 17 #[.pointer none] w (Quiet (.int .u64 0) w) := by
  go_enter Try.func17, Try.ntmps17
  go_wp2_with fail
  refine (num_nil 1 _ (by omega)).mono ?_
  rintro r w1 ⟨rfl, hb⟩
  go_wp2_with fail
  go_ret
  exact ⟨rfl, hb⟩
theorem u64i_nil (w : World) : Calls Try.prog 20 #[.pointer none] w (Quiet (.int .u64 0) w) := by
  go_enter Try.func20, Try.ntmps20
  go_wp2_with fail
  refine (num_nil 8 _ (by omega)).mono ?_
  rintro r w1 ⟨rfl, hb⟩
  go_wp2_with fail
  go_ret
  exact ⟨rfl, hb⟩
theorem many_nil (k : Nat) (w : World) (hk : k ≤ 8) : Calls Try.prog 50 #[.pointer none, .int .i64 k, .int .i64 9] w (Quiet (.int .i64 0) w) := by
  go_enter Try.func50, Try.ntmps50
  go_wp2_with fail
  refine (num_nil k _ hk).mono ?_
  rintro r w1 ⟨rfl, hb⟩
  go_wp2_with fail
  go_ret
  exact ⟨rfl, hb⟩
theorem clone_nil (w : World) : Calls Try.prog 42 #[.slice none 0 0] w (Quiet (.slice none 0 0) w) := by
  have q26 : ∀ (w : World) (a : Option Addr) (n c n' c' : Nat), (binOp .eql 26 (.slice a n c) (.slice none n' c')).run Try.prog w = .ok (.bool a.isNone) w := fun w a n c n' c' => Lib.run_eql_slice_nil w _ _ a n c n' c' Try.underlying26
  go_enter Try.func42, Try.ntmps42
  go_wp2_with fail
  go_ret
  exact ⟨rfl, Below.refl _ _⟩
theorem blobi_nil (w : World) : Calls Try.prog 25 #[.pointer none, .int .i64 9] w (Quiet (.slice none 0 0) w) := by
  go_enter Try.func25, Try.ntmps25
  go_wp2_with fail
  refine (many_nil 2 _ (by omega)).mono ?_
  rintro r w1 ⟨rfl, hb1⟩
  go_wp2_with fail
  refine (next_nil 0 _ (by omega)).mono ?_
  rintro r w2 ⟨rfl, hb2⟩
  go_wp2_with fail
  refine (clone_nil _).mono ?_
  rintro r w3 ⟨rfl, hb3⟩
  have E := thru (thru hb1 hb2) hb3
  go_wp2_with fail
  go_ret
  exact ⟨rfl, E⟩
set_option maxHeartbeats 800000 in
theorem sumsi_nil (w : World) : Calls Try.prog 24 #[.pointer none, .int .i64 9] w fun r w' => (∃ g, r = .returned (.slice (some ⟨g, 0, none⟩) 0 0)) ∧ Below w.heap.size w w' := by
  have hmk : ∀ w, (Instr.makeSlice 55 (.int .i64 0) (.int .i64 0)).run Try.prog w = .ok (.slice (some ⟨w.heap.size, 0, none⟩) 0 0) (w.alloc (.cells #[] 51)) := fun w => by simpa using make51 0 (by omega) w
  go_enter Try.func24, Try.ntmps24
  go_wp2_with fail
  refine (many_nil 1 _ (by omega)).mono ?_
  rintro r w1 ⟨rfl, hb1⟩
  go_wp2_with fail
  refine (next_nil 0 _ (by omega)).mono ?_
  rintro r w2 ⟨rfl, hb2⟩
  have E := Lib.hid (thru hb1 hb2)
  clear hb1 hb2
  go_wp2_with fail
  have E2 := Lib.hid (more E.out (.cells #[] 51))
  obtain ⟨g, hg⟩ : ∃ g, w2.heap.size = g := ⟨_, rfl⟩
  rw [hg]
  clear hg hmk
  generalize w2.alloc (.cells #[] 51) = W at E2 ⊢
  go_loopw [20] (fun c wr => c = .int .i64 0 ∧ wr = W) (fun _ _ => 0)
  case atStart => exact ⟨rfl, rfl⟩
  case round =>
    obtain ⟨rfl, rfl⟩ := hrel
    go_wp2_with fail
    go_ret
    exact ⟨⟨g, rfl⟩, E2.out⟩
theorem undrew {w w' : World} (h : Below w.drew.heap.size w.drew w') : Below w.heap.size w w' := ⟨h.os, h.tape, h.output, h.size, h.block⟩
set_option maxHeartbeats 1600000 in
theorem sumi_nil (w : World) : Calls Try.prog 21 #[.pointer none] w (Quiet (sumV z16) w) := by
  go_enter Try.func21, Try.ntmps21
  go_wp2_with fail
  have hbA := (Blk.new w z16o).old z16o
  have hbB : Blk ((w.alloc z16o).alloc z16o) (w.heap.size + 1) z16o := Blk.newAt _ (by simp)
  have hE : Below w.heap.size w ((w.alloc z16o).alloc z16o) := more (more (Below.refl _ _) _) _
  have hS : w.heap.size + 2 ≤ ((w.alloc z16o).alloc z16o).heap.size := by simp
  have HBA := Lib.hid hbA
  have HBB := Lib.hid hbB
  have HE := Lib.hid hE
  clear hbA hbB hE
  generalize (w.alloc z16o).alloc z16o = W0 at HBA HBB HE hS ⊢
  generalize hA : w.heap.size = A at HBA HBB HE hS ⊢
  have HA := Lib.hid hA
  clear hA
  go_region_law (first
    | (refine step_copy_splice rfl (.tmp 4) (.tmp 6) 26 26 rfl 5 Try.underlying26 (by kernel_rfl) (some ⟨A + 1, 0, none⟩) none 16 16 0 0 (by simp [Act.eval, Act.put]) (by simp [Act.eval, Act.put]) (A + 1) 0 (bv z16) 51 HG.out [] rfl (fun h => by simp at h) (by simp) (by simp) (A + 1) w2 (Below.refl _ _) (Nat.le_refl _) ?_; intro w4 hg4 hb4)
    | (go_simp; go_at_call 49; refine (next_nil 16 _ (by omega)).mono ?_; rintro r w2 ⟨rfl, h2⟩; have H2 := Lib.hid (undrew h2); have HG := Lib.hid (HBB.out.keep H2.out); clear h2))
  all_goals
    have h2 : Below W0.heap.size W0 w2 := H2.out
    have HA4 := Lib.hid ((HBA.out.keep h2).upto hb4 (Nat.lt_succ_self A))
    have HE4 : Hid (Below A w w4) := (HE.out.trans (h2.mono (by omega))).trans (hb4.mono (by omega))
    have HG4 : Hid (w4.heap[A + 1]? = some (.cells (bv z16).toArray 51 (0, 0))) := hg4
    clear hg4 hb4 h2
    have hc16 := Lib.hid (cells51 (l := z16) rfl)
    have H5 := Lib.hid (Below.row HE4.out (Nat.le_refl A) (bv z16).toArray)
    have HA5 := Lib.hid (HA4.out.setRow (bv z16).toArray)
    go_wp2_with (first
      | (refine wpList_load_row rfl 51 (.tmp 3) rfl (A + 1) rfl 51 (bv z16).toArray (0, 0) _ HG4.out Try.underlying51 rfl hc16.out ?_)
      | (refine wpList_store_row rfl 51 (.tmp 2) (.tmp 8) rfl A (bv z16).toArray rfl rfl 51 _ HA4.out hc16.out (size51 (l := z16) rfl) (bv_all _) ?_))
    refine bodyPost_ret (v := sumV z16) (results_cell_row Try.results21 _ _ A 51 _ (0, 0) _ rfl HA5.out Try.underlying51 rfl hc16.out) rfl ⟨rfl, by rw [HA.out]; exact H5.out⟩
theorem end_nil (w : World) : Calls Try.prog 15 #[.pointer none] w (Quiet (.int .i64 2) w) := by
  go_enter Try.func15, Try.ntmps15
  go_wp2_with fail
  refine (left_nil _).mono ?_
  rintro r w1 ⟨rfl, hb1⟩
  go_wp2_with fail
  refine (err_nil _).mono ?_
  rintro r w2 ⟨rfl, hb2⟩
  go_wp2_with fail
  go_ret
  exact ⟨rfl, thru hb1 hb2⟩

theorem eqg_z (x y : Operand) (w : World) : (eqGuard .eql 51 x y (sumV z16) (.agg #[.int .u8 0, .int .u8 0, .int .u8 0, .int .u8 0, .int .u8 0, .int .u8 0, .int .u8 0, .int .u8 0, .int .u8 0, .int .u8 0, .int .u8 0, .int .u8 0, .int .u8 0, .int .u8 0, .int .u8 0, .int .u8 0])).run Try.prog w = .ok () w := by kernel_rfl
theorem eql_z (w : World) : (binOp .eql 51 (sumV z16) (.agg #[.int .u8 0, .int .u8 0, .int .u8 0, .int .u8 0, .int .u8 0, .int .u8 0, .int .u8 0, .int .u8 0, .int .u8 0, .int .u8 0, .int .u8 0, .int .u8 0, .int .u8 0, .int .u8 0, .int .u8 0, .int .u8 0])).run Try.prog w = .ok (.bool true) w :=
  eql51 (p := z16) (by intro x hx; simp at hx; omega) rfl w
abbrev z16c : Array Value := #[.int .u8 0, .int .u8 0, .int .u8 0, .int .u8 0, .int .u8 0, .int .u8 0, .int .u8 0, .int .u8 0, .int .u8 0, .int .u8 0, .int .u8 0, .int .u8 0, .int .u8 0, .int .u8 0, .int .u8 0, .int .u8 0]
set_option maxHeartbeats 3200000 in
theorem fieldNil_walk (n : Int) (a : Option Addr) (len cap : Nat) (z : List Int) (w : World) (hn : (Lit.int .u64 n).wf = true) (hz : HoldsB w w.heap.size (.slice a len cap) z) :
    Calls Try.prog 7 #[.int .u64 n, .slice a len cap] w fun r w' => r = .returned (.bool true) ∧ Below w.heap.size w w' := by
  have hn' : 0 ≤ n ∧ n < 18446744073709551616 := by
    have h1 : IntKind.u64.min = 0 := rfl
    have h2 : IntKind.u64.max = 18446744073709551615 := rfl
    simp [Lit.wf, h1, h2] at hn
    omega
  have hl : len ≤ maxLen := by
    obtain ⟨_, n1, _, h1, h2⟩ := hz.slice
    have := hz.len
    simp only [Value.slice.injEq] at h1
    omega
  have HN := Lib.hid hn'
  have HL := Lib.hid hl
  clear hn hl hn' hz
  go_enter Try.func7, Try.ntmps7
  go_wp2_with fail
  refine (u8_nil n _ HN.out.1).mono ?_
  rintro r w1 ⟨rfl, hb1⟩
  go_wp2_with fail
  refine (u64_nil n _ HN.out.1 HN.out.2).mono ?_
  rintro r w2 ⟨rfl, hb2⟩
  have E2 := Lib.hid (thru hb1 hb2)
  clear hb1 hb2
  go_wp2_with fail
  refine (sum_nil _ _ rfl).mono ?_
  rintro r w3 ⟨rfl, hb3⟩
  have E3 := Lib.hid (thru E2.out hb3)
  clear hb3
  go_wp2_with fail
  refine (sums_nil _).mono ?_
  rintro r w4 ⟨rfl, hb4⟩
  have E4 := Lib.hid (thru E3.out hb4)
  clear hb4
  go_wp2_with fail
  refine (blob_nil a len cap _ HL.out).mono ?_
  rintro r w5 ⟨rfl, hb5⟩
  have E5 := Lib.hid (thru E4.out hb5)
  clear hb5
  go_wp2_with fail
  refine (fail_nil 1 _).mono ?_
  rintro r w6 ⟨rfl, hb6⟩
  have E6 := Lib.hid (thru E5.out hb6)
  clear hb6
  go_wp2_with fail
  refine (bytes_nil _).mono ?_
  rintro r w7 ⟨rfl, hb7⟩
  have E7 := Lib.hid (thru E6.out hb7)
  clear hb7 E2 E3 E4 E5 E6
  go_wp2_with fail
  refine (awake_any _).mono ?_
  rintro r w8 ⟨rfl, hb8⟩
  have E8 := Lib.hid (thru E7.out hb8)
  clear hb8 E7
  go_wp2_with fail
  refine (u8i_nil _).mono ?_
  rintro r w9 ⟨rfl, hb9⟩
  have E9 := Lib.hid (thru E8.out hb9)
  clear hb9 E8
  go_wp2_with fail
  refine (u64i_nil _).mono ?_
  rintro r w10 ⟨rfl, hb10⟩
  have E10 := Lib.hid (thru E9.out hb10)
  clear hb10 E9
  have hgd := eqg_z
  have heq := eql_z
  go_wp2_with fail
  refine (sumi_nil _).mono ?_
  rintro r w11 ⟨rfl, hb11⟩
  have E11 := Lib.hid (thru E10.out hb11)
  clear hb11 E10
  go_wp2_with fail
  refine (sumsi_nil _).mono ?_
  rintro r w12 ⟨⟨g, rfl⟩, hb12⟩
  have E12 := Lib.hid (thru E11.out hb12)
  clear hb12 E11 hgd heq
  go_wp2_with fail
  refine (blobi_nil _).mono ?_
  rintro r w13 ⟨rfl, hb13⟩
  have E13 := Lib.hid (thru E12.out hb13)
  clear hb13 E12
  go_wp2_with fail
  refine (left_nil _).mono ?_
  rintro r w14 ⟨rfl, hb14⟩
  have E14 := Lib.hid (thru E13.out hb14)
  clear hb14 E13
  go_wp2_with fail
  refine (err_nil _).mono ?_
  rintro r w15 ⟨rfl, hb15⟩
  have E15 := Lib.hid (thru E14.out hb15)
  clear hb15 E14
  go_wp2_with fail
  refine (end_nil _).mono ?_
  rintro r w16 ⟨rfl, hb16⟩
  have E16 := Lib.hid (thru E15.out hb16)
  clear hb16 E15
  go_wp2_with fail
  go_ret
  exact ⟨rfl, E16.out⟩
end Go.Proofs.Ytgpjffchpppceaa
