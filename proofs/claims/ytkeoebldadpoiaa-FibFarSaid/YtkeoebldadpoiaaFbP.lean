/-
  Repeat: a row of so many of one number.
-/
import Derived.Test.YtkeoebldadpoiaaFbH
import Derived.Shelf.Bits.Mul64
import Derived.Laws.CopyOwn
import Derived.Deep.RegionLaw
import Derived.Deep.RegionHeld3
namespace Go.Proofs.Ytkeoebldadpoiaa
open Go.RowKit

set_option maxHeartbeats 1000000 in
theorem mul64_any (x y : Nat) (hx : x < 18446744073709551616) (hy : y < 18446744073709551616) (w : World) :
    Calls Try.prog 31 #[.int .u64 x, .int .u64 y] w fun e w' => e = .returned (.tuple #[.int .u64 ((x * y / 18446744073709551616 : Nat) : Int), .int .u64 ((x * y % 18446744073709551616 : Nat) : Int)]) ∧ w = w' := by
  obtain ⟨bd, bt, bw, hhi⟩ := Lib.mul64_hi x y hx hy
  have ba := Lib.half_mul_le (a := x / 4294967296) (b := y / 4294967296) (by omega) (by omega)
  have bb := Lib.half_mul_le (a := x / 4294967296) (b := y % 4294967296) (by omega) (by omega)
  have bc := Lib.half_mul_le (a := x % 4294967296) (b := y / 4294967296) (by omega) (by omega)
  have ba' : x / 4294967296 * (y / 4294967296) < 18446744073709551616 := by omega
  have bb' : x / 4294967296 * (y % 4294967296) < 18446744073709551616 := by omega
  have bc' : x % 4294967296 * (y / 4294967296) < 18446744073709551616 := by omega
  have bh1 : x / 4294967296 * (y / 4294967296) + (x / 4294967296 * (y % 4294967296) + x % 4294967296 * (y % 4294967296) / 4294967296) / 4294967296 < 18446744073709551616 := by omega
  have bh : x / 4294967296 * (y / 4294967296) + (x / 4294967296 * (y % 4294967296) + x % 4294967296 * (y % 4294967296) / 4294967296) / 4294967296 + ((x / 4294967296 * (y % 4294967296) + x % 4294967296 * (y % 4294967296) / 4294967296) % 4294967296 + x % 4294967296 * (y / 4294967296)) / 4294967296 < 18446744073709551616 := by omega
  go_enter Try.func31, Try.ntmps31
  go_wp2
  simp only [Mul64.maskN x hx, Mul64.maskN y hy, Mul64.divN, Mul64.mulN, Mul64.addN, Mul64.wrapN _ bd, Mul64.wrapN _ bb', Mul64.wrapN _ bt, Mul64.maskN _ bt, Mul64.wrapN _ bc', Mul64.wrapN _ bw, Mul64.wrapN _ ba', Mul64.wrapN _ bh1, Mul64.wrapN _ bh, Mul64.wrapM (x * y)]
  rw [hhi]
  go_ret2
  exact ⟨rfl, rfl⟩
set_option maxHeartbeats 1000000 in
theorem mul_small (n : Nat) (hn : n ≤ 10) (w : World) :
    Calls Try.prog 29 #[.int .u64 1, .int .u64 n] w fun e w' => e = .returned (.tuple #[.int .u64 0, .int .u64 n]) ∧ w = w' := by
  have c64 := mul64_any 1 n (by omega) (by omega) w
  rw [show 1 * n / 18446744073709551616 = 0 by omega, show 1 * n % 18446744073709551616 = n by omega] at c64
  go_enter Try.func29, Try.ntmps29
  go_wp2_with fail
  refine c64.mono ?_
  rintro e w' ⟨rfl, rfl⟩
  go_wp2_with fail
  go_ret2
  exact ⟨rfl, rfl⟩
def rep (n k : Nat) : List Value := List.replicate k (.int .i64 (-1)) ++ List.replicate (n - k) (.int .i64 0)
theorem rep_len {n k : Nat} (h : k ≤ n) : (rep n k).length = n := by simp [rep]; omega
theorem rep_splice {n k m : Nat} (h : k + m ≤ n) : splice (rep n k) k (List.replicate m (.int .i64 (-1))) = rep n (k + m) := by
  unfold splice rep
  rw [List.take_left' (by simp), List.length_replicate, List.drop_append, List.drop_of_length_le (by simp), List.nil_append, List.length_replicate, List.drop_replicate, ← List.append_assoc, List.replicate_append_replicate]
  congr 2
  omega
theorem rep_at {n k j : Nat} (h : j < k) : (rep n k)[j]? = some (.int .i64 (-1)) := by
  unfold rep
  rw [List.getElem?_append_left (by simpa using h)]
  simp [h]
def RepPost (n : Nat) (w : World) (r : Ending) (w' : World) : Prop := ∃ v, r = .returned v ∧ w'.ownsRow w.heap.size 3 1 v n (ivs (List.replicate n (-1))) ∧ Below w.heap.size w w'
theorem made1 (n : Nat) : madeCells #[.int .i64 0] n = (rep n 0).toArray := by
  apply Array.ext_getElem?
  intro j
  by_cases hj : j < n
  · have : j % 1 = 0 := by omega
    simp [madeCells, rep, hj, this]
  · simp [madeCells, rep, hj]
theorem make39 (n : Nat) (hn : n ≤ 10) (w : World) : (Instr.makeSlice 39 (.int .i64 n) (.int .i64 n)).run Try.prog w = .ok (.slice (some ⟨w.heap.size, 0, none⟩) n n) (w.alloc (.cells (rep n 0).toArray 3)) := by
  obtain ⟨i0, hi, hz0, hz1, hz2⟩ := info_parts info3'
  have h := run_make (P := Try.prog) w 39 3 i0 _ Try.underlying39 hi hz0 .i64 .i64 n n (by omega) (Int.le_refl _) (by rw [hz2]; omega) (by omega)
  rw [h, ← made1, hz1]
  simp [Value.cells, Int.toNat_natCast]
theorem rep_all (n : Nat) : rep n n = ivs (List.replicate n (-1)) := by
  simp only [rep, Nat.sub_self, List.replicate_zero, List.append_nil, ivs]
  induction n with
  | zero => rfl
  | succ n ih => rw [List.replicate_succ, List.replicate_succ, List.flatMap_cons, ← ih]; rfl
theorem neg_one {m : Nat} : ∀ v ∈ List.replicate m (Value.int .i64 (-1)), v.oneCell' = true := fun v hv => by rw [List.eq_of_mem_replicate hv]; rfl
theorem size3 : (Try.prog.info? 3).map (·.size) = some 1 := by kernel_rfl
set_option maxHeartbeats 3200000 in
theorem repeat_any (n B : Nat) (hn : n ≤ 10) (w : World) (hB : Blk w B (.cells #[.int .i64 (-1)] 3)) :
    Calls Try.prog 25 #[.slice (some ⟨B, 0, none⟩) 1 1, .int .i64 n] w (RepPost n w) := by
  have HB := Kp.mk hB
  have n0 : ¬ ((n : Int) < 0) := by omega
  have HM := fun w1 => mul_small n hn w1
  have e1 : IntKind.u64.wrap 1 = 1 := by decide
  have e2 : IntKind.u64.wrap (n : Int) = n := by rw [IntKind.wrap_u64]; omega
  have hmk := make39 n hn
  clear hB
  obtain ⟨A, hA⟩ : ∃ A, A = w.heap.size := ⟨_, rfl⟩
  have HAe := Kp.mk hA
  clear hA
  go_enter Try.func25, Try.ntmps25
  go_wp2_with fail
  refine (HM _).mono ?_
  rintro r w1 ⟨rfl, rfl⟩
  have e3 : decide (9223372036854775807 < (n : Int)) = false := by simp; omega
  by_cases h0 : n = 0
  · subst h0
    have hmk0 : ∀ w, (Instr.makeSlice 39 (.int .i64 0) (.int .i64 0)).run Try.prog w = .ok (.slice (some ⟨w.heap.size, 0, none⟩) 0 0) (w.alloc (.cells (rep 0 0).toArray 3)) := fun w => make39 0 (by omega) w
    clear hmk
    go_wp2_with (refine wpList_copy_splice rfl (.tmp 31) (.tmp 32) 39 39 rfl 3 Try.underlying39 size3 _ _ 0 0 1 1 rfl rfl w.heap.size 0 (rep 0 0) 3 (Blk.new _ _) [] rfl (fun h => absurd h (by simp)) (by simp) (by simp) w.heap.size w (more (Below.refl _ _) _) (Nat.le_refl _) ?_)
    intro w2 hg2 hb2
    go_wp2_with fail
    go_loopw [8] (fun c wr => c = .int .i64 0 ∧ wr = w2) (fun c _ => 0)
    case atStart => exact ⟨rfl, rfl⟩
    case round =>
      obtain ⟨rfl, rfl⟩ := hrel
      go_wp2_with fail
      go_ret
      exact ⟨_, rfl, ⟨rfl, .inr ⟨w.heap.size, 0, #[], rfl, Nat.le_refl _, by have h := hg2.out; simpa [rep, splice] using h, Nat.le_refl _, by unfold maxLen; omega, rfl, rfl⟩⟩, hb2⟩
  · have HN0 : Kp (1 ≤ n) := ⟨by omega⟩
    clear h0
    go_wp2_with (refine wpList_copy_splice rfl (.tmp 31) (.tmp 32) 39 39 rfl 3 Try.underlying39 size3 _ _ n n 1 1 rfl rfl w.heap.size 0 (rep n 0) 3 (Blk.new _ _) [.int .i64 (-1)] ?c1 ?c2 ?c3 ?c4 w.heap.size w (more (Below.refl _ _) _) (Nat.le_refl _) ?_)
    case c1 => have := HN0.out; simp [Nat.min_def]; omega
    case c2 =>
      intro j v hj
      have hj0 : j = 0 := by have := (List.getElem?_eq_some_iff.1 hj).1; simpa using this
      subst hj0
      simp at hj
      subst hj
      exact (HB.out.old _).cell 0
    case c3 => rw [rep_len (Nat.zero_le _)]; have := HN0.out; simp; omega
    case c4 => intro v hv; simp at hv; subst hv; rfl
    · intro w2 hg2 hb2
      have HG : Kp (Blk w2 A (.cells (rep n 1).toArray 3)) := ⟨by have h := hg2.out; rw [show [Value.int .i64 (-1)] = List.replicate 1 (Value.int .i64 (-1)) from rfl, rep_splice (n := n) (k := 0) (m := 1) (by have := HN0.out; omega), ← HAe.out] at h; exact h⟩
      have HE : Kp (Below A w w2) := ⟨by rw [HAe.out]; exact hb2⟩
      clear hg2 hb2 hmk
      rw [← HAe.out]
      go_wp2_with fail
      go_loopw [8] (fun c wr => ∃ k : Nat, 1 ≤ k ∧ k ≤ n ∧ c = .int .i64 k ∧ Kp (Blk wr A (.cells (rep n k).toArray 3)) ∧ Kp (Below A w wr)) (fun c _ => n - (intOf c).toNat)
      case atStart => exact ⟨1, by omega, HN0.out, rfl, HG, HE⟩
      case round =>
        obtain ⟨k, hk1, hkn, rfl, HG0, HE0⟩ := hrel
        by_cases hlt : k < n
        · have t1 : (k : Int) < n := by omega
          have t2 : (k : Int) ≤ n := by omega
          have hne : n ≠ k := by omega
          have HLT := Kp.mk hlt
          clear HG HE
          go_wp2_with fail
          obtain ⟨m, hm⟩ : ∃ m, m = Nat.min k (n - k) := ⟨_, rfl⟩
          have HM0 : Kp (m = Nat.min k (n - k) ∧ k + m ≤ n ∧ 1 ≤ m ∧ m ≤ k) := ⟨hm, by rw [hm]; exact (by have : Nat.min k (n - k) = min k (n - k) := rfl; omega), by have : Nat.min k (n - k) = min k (n - k) := rfl; omega, by have : Nat.min k (n - k) = min k (n - k) := rfl; omega⟩
          have HM1 : Kp ((List.replicate m (Value.int .i64 (-1))).length = Nat.min k (n - k)) := ⟨by rw [hm]; simp⟩
          have HM3 : Kp (k + (List.replicate m (Value.int .i64 (-1))).length ≤ (rep n k).length) := ⟨by rw [rep_len hkn]; simp; exact HM0.out.2.1⟩
          have HM2 : Kp (∀ wx, Blk wx A (.cells (rep n k).toArray 3) → ∀ j v, (List.replicate m (Value.int .i64 (-1)))[j]? = some v → wx.cell? ((⟨A, 0, none⟩ : Addr).add j) = some v) := ⟨fun wx hx j v hj => by
            have hjm : j < m := by have := (List.getElem?_eq_some_iff.1 hj).1; simpa using this
            have e : (⟨A, 0, none⟩ : Addr).add j = ⟨A, j, none⟩ := by unfold Addr.add; split <;> simp_all
            rw [e, hx.cell j, List.getElem?_toArray, rep_at (by have := HM0.out; omega)]
            rw [List.getElem?_replicate, if_pos hjm] at hj
            exact hj⟩
          clear hm
          -- REGION
          refine wp_region_any (by kernel_rfl) ?_
          change wpAny _ _ _ _ _ _ _ (World.drew _)
          refine wpAny_take (i := 0) (oi := { dst := some 38, op := Go.Op.move (Go.Operand.tmp 8), type := 3, pos := "slices.go:528", after := #[], guard := none }) (v := .int .i64 k) rfl (by kernel_rfl) (by kernel_rfl) (by kernel_rfl) (fun _ _ _ h => h) (Or.inl ⟨by rfl, fun w => by go_simp⟩) ?_
          simp only [Act.put, List.setIfInBounds_toArray, List.set_cons_zero, List.set_cons_succ]
          refine wpAny_take (i := 1) (oi := { dst := some 39, op := Go.Op.move (Go.Operand.tmp 7), type := 39, pos := "slices.go:528", after := #[], guard := none }) (v := .slice (some ⟨A, 0, none⟩) n n) rfl (by kernel_rfl) (by kernel_rfl) (by kernel_rfl) (fun _ _ _ h => h) (Or.inl ⟨by rfl, fun w => by go_simp⟩) ?_
          simp only [Act.put, List.setIfInBounds_toArray, List.set_cons_zero, List.set_cons_succ]
          refine wpAny_take (i := 2) (oi := { dst := some 40, op := Go.Op.move (Go.Operand.tmp 8), type := 3, pos := "slices.go:528", after := #[], guard := none }) (v := .int .i64 k) rfl (by kernel_rfl) (by kernel_rfl) (by kernel_rfl) (fun _ _ _ h => h) (Or.inl ⟨by rfl, fun w => by go_simp⟩) ?_
          simp only [Act.put, List.setIfInBounds_toArray, List.set_cons_zero, List.set_cons_succ]
          refine wpAny_take (i := 3) (oi := { dst := some 41, op := Go.Op.slice 39 (Go.Operand.tmp 39) (some (Go.Operand.tmp 40)) none none, type := 39, pos := "slices.go:528", after := #[{ on := 1, ground := Go.Ground.data }, { on := 2, ground := Go.Ground.data }], guard := none }) (v := .slice (some ⟨A, k, none⟩) (n - k) (n - k)) rfl (by kernel_rfl) (by kernel_rfl) (by kernel_rfl) (fun _ _ _ h => h) (Or.inl ⟨by rfl, fun w => by go_simp⟩) ?_
          simp only [Act.put, List.setIfInBounds_toArray, List.set_cons_zero, List.set_cons_succ]
          refine wpAny_take (i := 4) (oi := { dst := some 42, op := Go.Op.move (Go.Operand.tmp 7), type := 39, pos := "slices.go:528", after := #[], guard := none }) (v := .slice (some ⟨A, 0, none⟩) n n) rfl (by kernel_rfl) (by kernel_rfl) (by kernel_rfl) (fun _ _ _ h => h) (Or.inl ⟨by rfl, fun w => by go_simp⟩) ?_
          simp only [Act.put, List.setIfInBounds_toArray, List.set_cons_zero, List.set_cons_succ]
          refine wpAny_take (i := 5) (oi := { dst := some 43, op := Go.Op.move (Go.Operand.tmp 8), type := 3, pos := "slices.go:528", after := #[], guard := none }) (v := .int .i64 k) rfl (by kernel_rfl) (by kernel_rfl) (by kernel_rfl) (fun _ _ _ h => h) (Or.inl ⟨by rfl, fun w => by go_simp⟩) ?_
          simp only [Act.put, List.setIfInBounds_toArray, List.set_cons_zero, List.set_cons_succ]
          refine wpAny_take (i := 6) (oi := { dst := some 44, op := Go.Op.slice 39 (Go.Operand.tmp 42) none (some (Go.Operand.tmp 43)) none, type := 39, pos := "slices.go:528", after := #[{ on := 4, ground := Go.Ground.data }, { on := 5, ground := Go.Ground.data }], guard := none }) (v := .slice (some ⟨A, 0, none⟩) k n) rfl (by kernel_rfl) (by kernel_rfl) (by kernel_rfl) (fun _ _ _ h => h) (Or.inl ⟨by rfl, fun w => by go_simp⟩) ?_
          simp only [Act.put, List.setIfInBounds_toArray, List.set_cons_zero, List.set_cons_succ]
          refine wpAny_ready (rs := [7]) (by kernel_rfl) (by simp) ?_
          refine AllReady.cons (o := { dst := some 45, op := Go.Op.call { callee := Go.Callee.builtin Go.Builtin.copy, args := #[Go.Operand.tmp 41, Go.Operand.tmp 44], argTypes := #[39, 39] }, type := 3, pos := "slices.go:528", after := #[{ on := 3, ground := Go.Ground.data }, { on := 6, ground := Go.Ground.data }], guard := none }) rfl (fun K hK => ?_) AllReady.nil
          refine step_copy_splice rfl (.tmp 41) (.tmp 44) 39 39 rfl 3 Try.underlying39 size3 (some ⟨A, k, none⟩) (some ⟨A, 0, none⟩) (n - k) (n - k) k n rfl rfl A k (rep n k) 3 HG0.out.draw (List.replicate m (.int .i64 (-1))) HM1.out (fun _ => ⟨rfl, _, rfl, HM2.out _ HG0.out.draw⟩) HM3.out neg_one A w (Below.drew HE0.out) (Nat.le_refl _) ?_
          intro w4 hg4 hb4
          have HG4 : Kp (Blk w4 A (.cells (rep n (k + m)).toArray 3)) := ⟨by have h := hg4.out; rw [rep_splice HM0.out.2.1] at h; exact h⟩
          have HE4 := Kp.mk hb4
          rw [show goInt (List.replicate m (Value.int .i64 (-1))).length = Value.int .i64 (m : Int) by simp [goInt]]
          clear hg4 hb4
          refine hK _ _ ?_
          clear hK K
          try simp only [Act.put, List.setIfInBounds_toArray, List.set_cons_zero, List.set_cons_succ]
          refine wpAny_ready (rs := [8]) (by kernel_rfl) (by simp) ?_
          refine AllReady.cons (o := { dst := some 46, op := Go.Op.binOp Go.BinOp.add 3 (Go.Operand.tmp 38) (Go.Operand.tmp 45) 3, type := 3, pos := "slices.go:528", after := #[{ on := 0, ground := Go.Ground.data }, { on := 7, ground := Go.Ground.data }], guard := none }) rfl (fun K hK => ?_) AllReady.nil
          go_simp
          refine hK _ _ ?_
          clear hK K
          try simp only [Act.put, List.setIfInBounds_toArray, List.set_cons_zero, List.set_cons_succ]
          refine wpAny_ready (rs := [9]) (by kernel_rfl) (by simp) ?_
          refine AllReady.cons (o := { dst := some 8, op := Go.Op.assign (Go.Operand.tmp 46), type := 3, pos := "slices.go:528", after := #[{ on := 8, ground := Go.Ground.data }, { on := 7, ground := Go.Ground.chain }, { on := 0, ground := Go.Ground.phase }, { on := 1, ground := Go.Ground.phase }, { on := 2, ground := Go.Ground.phase }, { on := 3, ground := Go.Ground.phase }, { on := 4, ground := Go.Ground.phase }, { on := 5, ground := Go.Ground.phase }, { on := 6, ground := Go.Ground.phase }, { on := 7, ground := Go.Ground.phase }, { on := 8, ground := Go.Ground.phase }], guard := none }) rfl (fun K hK => ?_) AllReady.nil
          go_simp
          refine hK _ _ ?_
          clear hK K
          try simp only [Act.put, List.setIfInBounds_toArray, List.set_cons_zero, List.set_cons_succ]
          refine wpAny_done (by kernel_rfl) ?_ _
          -- END
          rw [show IntKind.i64.wrap ((k : Int) + (m : Int)) = ((k + m : Nat) : Int) by rw [IntWalk.i64_in _ (by have := HM0.out; omega)]; omega]
          go_wp2_with fail
          exact ⟨⟨k + m, by have := HM0.out; omega, by have := HM0.out; omega, rfl, HG4, HE4⟩, by have := HM0.out; simp [intOf]; omega⟩
        · obtain rfl : k = n := by omega
          go_wp2_with fail
          go_ret
          refine ⟨_, rfl, ?_, by rw [← HAe.out]; exact HE0.out⟩
          rw [← HAe.out]
          refine ⟨by rw [ivs_len]; simp, .inr ⟨A, k, (rep k k).toArray, rfl, Nat.le_refl _, HG0.out, Nat.le_refl _, by unfold maxLen; omega, by simp [rep_len (Nat.le_refl _)], by rw [rep_all]; exact List.take_of_length_le (by rw [ivs_len, List.length_replicate]; exact Nat.le_refl _)⟩⟩
end Go.Proofs.Ytkeoebldadpoiaa
