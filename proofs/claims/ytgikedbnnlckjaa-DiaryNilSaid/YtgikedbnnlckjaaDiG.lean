/-
  layer 15: wipe.
-/
import Derived.Test.YtgikedbnnlckjaaDiF
namespace Go.Proofs.Ytgikedbnnlckjaa
open Go.RowKit

/-- What wipe makes of a device, and what it answers: so many places are left, from place k on. -/
def wipeR : Nat → SlS → Int → Nat → SlS × Int
  | 0, s, _, _ => (s, 0)
  | r + 1, s, gen, k =>
    if hasE s ((begN s.n gen + k : Nat) : Int) ≠ 0 then (s, hasE s ((begN s.n gen + k : Nat) : Int))
    else if k = 0 ∧ toldV (readZ s ((begN s.n gen + k : Nat) : Int)) = gen then (s, 0)
    else if endV (readZ s ((begN s.n gen + k : Nat) : Int)) ≠ gen then wipeR r s gen (k + 1)
    else if writeE s ((begN s.n gen + k : Nat) : Int) ≠ 0 then (writeS s ((begN s.n gen + k : Nat) : Int) z64, writeE s ((begN s.n gen + k : Nat) : Int))
    else wipeR r (writeS s ((begN s.n gen + k : Nat) : Int) z64) gen (k + 1)
section
variable {r k : Nat} {s : SlS} {gen : Int}
theorem wipeR_no (h : hasE s ((begN s.n gen + k : Nat) : Int) ≠ 0) : wipeR (r + 1) s gen k = (s, hasE s ((begN s.n gen + k : Nat) : Int)) := by rw [wipeR, if_pos h]
theorem wipeR_told (h : hasE s ((begN s.n gen + k : Nat) : Int) = 0) (h2 : k = 0 ∧ toldV (readZ s ((begN s.n gen + k : Nat) : Int)) = gen) : wipeR (r + 1) s gen k = (s, 0) := by rw [wipeR, if_neg (by simpa using h), if_pos h2]
theorem wipeR_next (h : hasE s ((begN s.n gen + k : Nat) : Int) = 0) (h2 : ¬ (k = 0 ∧ toldV (readZ s ((begN s.n gen + k : Nat) : Int)) = gen)) (h3 : endV (readZ s ((begN s.n gen + k : Nat) : Int)) ≠ gen) : wipeR (r + 1) s gen k = wipeR r s gen (k + 1) := by rw [wipeR, if_neg (by simpa using h), if_neg h2, if_pos h3]
theorem wipeR_bad (h : hasE s ((begN s.n gen + k : Nat) : Int) = 0) (h2 : ¬ (k = 0 ∧ toldV (readZ s ((begN s.n gen + k : Nat) : Int)) = gen)) (h3 : endV (readZ s ((begN s.n gen + k : Nat) : Int)) = gen) (h4 : writeE s ((begN s.n gen + k : Nat) : Int) ≠ 0) : wipeR (r + 1) s gen k = (writeS s ((begN s.n gen + k : Nat) : Int) z64, writeE s ((begN s.n gen + k : Nat) : Int)) := by rw [wipeR, if_neg (by simpa using h), if_neg h2, if_neg (by simpa using h3), if_pos h4]
theorem wipeR_write (h : hasE s ((begN s.n gen + k : Nat) : Int) = 0) (h2 : ¬ (k = 0 ∧ toldV (readZ s ((begN s.n gen + k : Nat) : Int)) = gen)) (h3 : endV (readZ s ((begN s.n gen + k : Nat) : Int)) = gen) (h4 : writeE s ((begN s.n gen + k : Nat) : Int) = 0) : wipeR (r + 1) s gen k = wipeR r (writeS s ((begN s.n gen + k : Nat) : Int) z64) gen (k + 1) := by rw [wipeR, if_neg (by simpa using h), if_neg h2, if_neg (by simpa using h3), if_neg (by simpa using h4)]
end
set_option maxRecDepth 100000 in
set_option maxHeartbeats 4000000 in
theorem wipe_any (db g : Nat) (v : Value) (s : SlS) (gen : Int) (nx : Nat) (w : World) (h : DiIs w db g v s gen nx) (hst : s.st ≤ 900000) (hq : s.q.length ≤ 900000) :
    Calls Try.prog 55 #[dP db] w fun r w' => ∃ v', r = .returned (.int .i64 (wipeR (s.n / 2) s gen 0).2) ∧ SlStep g v v' (wipeR (s.n / 2) s gen 0).1 w w' := by
  have H := Kp.mk h
  have HST0 := Kp.mk hst
  have HQL0 := Kp.mk hq
  have hdb := h.b.lt
  have c0 : w.cell? ⟨db, 0, none⟩ = some (slP g) := h.b.cell 0
  obtain ⟨half, hhf⟩ : ∃ half, half = s.n / 2 := ⟨_, rfl⟩
  have HHF := Kp.mk hhf
  have hh2 : half ≤ 2048 := by have := h.is.k.n1; omega
  rw [← hhf]
  clear h hst hq hhf
  go_enter Try.func55, Try.ntmps55
  go_wp2_with fail
  refine (size_any g v s _ H.out.is).mono ?_
  rintro r w1 ⟨rfl, rfl⟩
  rw [← HHF.out]
  clear c0
  go_wp2_with fail
  go_loopw [12] (fun i wr => ∃ (k : Nat) (s1 : SlS) (v1 : Value), k ≤ half ∧ i = .int .i64 k ∧ SlStep g v v1 s1 w wr ∧ wipeR (half - k) s1 gen k = wipeR half s gen 0 ∧ s1.n = s.n ∧ s1.st ≤ s.st + k ∧ s1.q.length ≤ s.q.length + k) (fun i _ => half - (intOf i).toNat)
  case atStart => exact ⟨0, s, v, Nat.zero_le _, rfl, SlStep.same H.out.is (Below.refl _ _), rfl, rfl, by omega, by omega⟩
  case round =>
    obtain ⟨k, s1, v1, hk, rfl, hT, hR, hn1, hs1, hq1⟩ := hrel
    have HT := Kp.mk hT
    have HR := Kp.mk hR
    have HN1 := Kp.mk hn1
    have HSB : Kp (s1.st ≤ s.st + k ∧ s1.q.length ≤ s.q.length + k) := ⟨⟨hs1, hq1⟩⟩
    clear hT hR hn1 hs1 hq1
    by_cases hkh : k < half
    · have hkh' : (k : Int) < (half : Int) := by omega
      have HKP : Kp (k ≤ 4096) := ⟨by omega⟩
      have HST : Kp (s1.st + 1 ≤ 1000000) := ⟨by have := HSB.out.1; have := HST0.out; omega⟩
      have HQL : Kp (s1.q.length ≤ 1000000) := ⟨by have := HSB.out.2; have := HQL0.out; omega⟩
      have HHK : Kp (half - k = (half - (k + 1)) + 1) := ⟨by omega⟩
      have HD := Kp.mk (H.out.step HT.out)
      obtain ⟨at_, hat⟩ : ∃ at_, at_ = begN s1.n gen + k := ⟨_, rfl⟩
      have HAT : Kp (at_ = begN s1.n gen + k) := ⟨hat⟩
      obtain ⟨xz, hxz⟩ : ∃ xz, xz = readZ s1 (at_ : Nat) := ⟨_, rfl⟩
      have HXZ := Kp.mk hxz
      have HXL : Kp (xz.length = 64) := ⟨by rw [hxz]; exact (readZ_len HD.out.is.k _).1⟩
      have HXb : Kp (Bytes xz) := ⟨by rw [hxz]; exact (readZ_len HD.out.is.k _).2⟩
      obtain ⟨e, hee⟩ : ∃ e, e = hasE s1 (at_ : Nat) := ⟨_, rfl⟩
      have HEE := Kp.mk hee
      clear hat hxz hee
      go_wp2_with fail
      refine (dread_any db g v1 s1 gen nx k _ HD.out HKP.out HQL.out).mono ?_
      rintro r w3 ⟨rfl, hb3⟩
      rw [← HAT.out, ← HXZ.out, ← HEE.out]
      have HD3 := Kp.mk (HD.out.keep hb3)
      have HT3 : Kp (SlStep g v v1 s1 w w3) := ⟨HT.out.trans (SlStep.same HD.out.is hb3)⟩
      clear hb3 HD HT
      by_cases he0 : e = 0
      · have he : (e != 0) = false := by simp [he0]
        have HHE : Kp (hasE s1 ((begN s1.n gen + k : Nat) : Int) = 0) := ⟨by rw [← HAT.out, ← HEE.out]; exact he0⟩
        clear he0
        obtain ⟨XB, hXB⟩ : ∃ XB, XB = w3.heap.size := ⟨_, rfl⟩
        have HXB := Kp.mk hXB
        clear hXB
        go_wp2_with (first
          | (refine wpList_alloc_row rfl 35 rfl _ _ infoz64 ?_; rw [← HXB.out]; refine wpl_world (w := w3.alloc (.cells (kv .u8 z64).toArray 35)) (fun w6 => Row w6 XB 35 .u8 z64 ∧ Below w3.heap.size w3 w6) ⟨Blk.newAt _ HXB.out, more (Below.refl _ _) _⟩ ?_; rintro W8 ⟨h1, h2⟩; have K1 := Kp.mk h1; have K2 := Kp.mk h2; clear h1 h2)
          | (refine wpList_store_row rfl 35 (.tmp 4) (.tmp 19) rfl XB (kv .u8 xz).toArray rfl rfl 35 _ K1.out (cells64 HXL.out) (by rw [kv_size, kv_size, HXL.out, z64_len]) (kv_all _ _) ?_; refine wpl_world (fun w6 => Row w6 XB 35 .u8 xz ∧ Below w3.heap.size w3 w6) ⟨K1.out.setRow _, Below.row K2.out (by rw [HXB.out]; exact Nat.le_refl _) _⟩ ?_; rintro W4 ⟨h1, h2⟩; have HX4 := Kp.mk h1; have HD4 := Kp.mk (HD3.out.keep h2); have HT4 : Kp (SlStep g v v1 s1 w W4) := ⟨HT3.out.trans (SlStep.same HD3.out.is h2)⟩; clear h1 h2 K1 K2))
        clear he
        by_cases hk0 : k = 0
        · subst hk0
          by_cases htl : toldV xz = gen
          · have HTB : Kp ((toldV xz == gen) = true) := ⟨by simp [htl]⟩
            have HTL := Kp.mk htl
            clear htl
            refine wp_region_held_drew (S := fun w' => Blk w' db (dObj g gen nx) ∧ Row w' XB 35 .u8 xz) (by kernel_rfl) (⟨HD4.out.b.draw, HX4.out.drew⟩) (fun hH => ?_)
            refine wpAnyH_take (i := 0) (oi := { dst := some 26, op := Go.Op.move (Go.Operand.tmp 3), type := 3, pos := "diary.go:117", after := #[], guard := none }) (v := .int .i64 0) rfl (by kernel_rfl) (by kernel_rfl) (by kernel_rfl) (fun _ _ _ h => h) (Or.inl ⟨by rfl, fun w hS => by first | rfl | go_simp⟩) hH ?_
            simp only [Act.put, List.setIfInBounds_toArray, List.set_cons_zero, List.set_cons_succ]
            refine wpAnyH_take (i := 1) (oi := { dst := some 27, op := Go.Op.binOp Go.BinOp.eql 3 (Go.Operand.tmp 26) (Go.Operand.const (Go.Value.int Go.IntKind.i64 0)) 3, type := 4, pos := "diary.go:117", after := #[{ on := 0, ground := Go.Ground.data }], guard := none }) (v := .bool true) rfl (by kernel_rfl) (by kernel_rfl) (by kernel_rfl) (fun _ _ _ h => h) (Or.inl ⟨by rfl, fun w hS => by first | rfl | go_simp⟩) hH ?_
            simp only [Act.put, List.setIfInBounds_toArray, List.set_cons_zero, List.set_cons_succ]
            refine wpAnyH_take (i := 2) (oi := { dst := some 28, op := Go.Op.move (Go.Operand.tmp 27), type := 4, pos := "diary.go:117", after := #[{ on := 1, ground := Go.Ground.data }], guard := none }) (v := .bool true) rfl (by kernel_rfl) (by kernel_rfl) (by kernel_rfl) (fun _ _ _ h => h) (Or.inl ⟨by rfl, fun w hS => by first | rfl | go_simp⟩) hH ?_
            simp only [Act.put, List.setIfInBounds_toArray, List.set_cons_zero, List.set_cons_succ]
            refine wpAnyH_take (i := 3) (oi := { dst := some 29, op := Go.Op.load 35 (Go.Operand.tmp 4), type := 35, pos := "diary.go:117", after := #[{ on := 2, ground := Go.Ground.guard }], guard := some (2, true) }) (v := sec xz) rfl (by kernel_rfl) (by kernel_rfl) (by kernel_rfl) (fun _ _ _ h => h) (Or.inl ⟨by rfl, fun w hS => exec_load_row rfl rfl hS.2 Try.underlying35 rfl (cells64 HXL.out)⟩) hH ?_
            simp only [Act.put, List.setIfInBounds_toArray, List.set_cons_zero, List.set_cons_succ]
            refine wpAnyH_take (i := 5) (oi := { dst := some 31, op := Go.Op.move (Go.Operand.tmp 0), type := 52, pos := "diary.go:117", after := #[{ on := 2, ground := Go.Ground.guard }], guard := some (2, true) }) (v := .pointer (some ⟨db, 0, none⟩)) rfl (by kernel_rfl) (by kernel_rfl) (by kernel_rfl) (fun _ _ _ h => h) (Or.inl ⟨by rfl, fun w hS => by first | rfl | go_simp⟩) hH ?_
            simp only [Act.put, List.setIfInBounds_toArray, List.set_cons_zero, List.set_cons_succ]
            refine wpAnyH_take (i := 6) (oi := { dst := some 32, op := Go.Op.nilCheck (Go.Operand.tmp 31), type := 0, pos := "diary.go:117", after := #[{ on := 5, ground := Go.Ground.data }, { on := 2, ground := Go.Ground.guard }], guard := some (2, true) }) (v := .pointer (some ⟨db, 0, none⟩)) rfl (by kernel_rfl) (by kernel_rfl) (by kernel_rfl) (fun _ _ _ h => h) (Or.inl ⟨by rfl, fun w hS => by first | rfl | go_simp⟩) hH ?_
            simp only [Act.put, List.setIfInBounds_toArray, List.set_cons_zero, List.set_cons_succ]
            refine wpAnyH_take (i := 7) (oi := { dst := some 33, op := Go.Op.fieldAddr 89 (Go.Operand.tmp 32) 1, type := 0, pos := "diary.go:117", after := #[{ on := 6, ground := Go.Ground.data }, { on := 2, ground := Go.Ground.guard }], guard := some (2, true) }) (v := .pointer (some ⟨db, 1, none⟩)) rfl (by kernel_rfl) (by kernel_rfl) (by kernel_rfl) (fun _ _ _ h => h) (Or.inl ⟨by rfl, fun w hS => by first | rfl | go_simp⟩) hH ?_
            simp only [Act.put, List.setIfInBounds_toArray, List.set_cons_zero, List.set_cons_succ]
            refine wpAnyH_take (i := 8) (oi := { dst := some 34, op := Go.Op.load 55 (Go.Operand.tmp 33), type := 55, pos := "diary.go:117", after := #[{ on := 7, ground := Go.Ground.data }, { on := 2, ground := Go.Ground.guard }], guard := some (2, true) }) (v := .int .u32 gen) rfl (by kernel_rfl) (by kernel_rfl) (by kernel_rfl) (fun _ _ _ h => h) (Or.inl ⟨by rfl, fun w hS => by have h1 := hS.1.cell 1; go_simp⟩) hH ?_
            simp only [Act.put, List.setIfInBounds_toArray, List.set_cons_zero, List.set_cons_succ]
            refine wpAnyH_ready (rs := [4]) (by kernel_rfl) (by simp) ?_
            refine AllReadyH.cons (o := { dst := some 30, op := Go.Op.call { callee := Go.Callee.value (Go.Operand.func 59), args := #[Go.Operand.tmp 29], argTypes := #[35] }, type := 55, pos := "diary.go:117", after := #[{ on := 3, ground := Go.Ground.data }, { on := 2, ground := Go.Ground.chain }, { on := 2, ground := Go.Ground.guard }], guard := some (2, true) }) rfl (fun K hK => ?_) AllReadyH.nil
            go_simp
            refine (told_any xz _ HXL.out HXb.out).mono ?_
            rintro r w5 ⟨rfl, hb5⟩
            have HB5 : Kp (Below W4.heap.size W4 w5) := ⟨(show Below W4.heap.size W4 W4.drew from ⟨rfl, rfl, rfl, Nat.le_refl _, fun _ _ => rfl⟩).trans hb5⟩
            have HD5 := Kp.mk (HD4.out.keep HB5.out)
            have HX5 := Kp.mk (HX4.out.keep HB5.out)
            clear hb5
            refine hK.out _ _ (⟨HD5.out.b, HX5.out⟩) (fun hHn => ?_)
            clear hK K hH
            have hH := hHn
            clear hHn
            try simp only [Act.put, List.setIfInBounds_toArray, List.set_cons_zero, List.set_cons_succ]
            refine wpAnyH_take (i := 9) (oi := { dst := some 35, op := Go.Op.binOp Go.BinOp.eql 55 (Go.Operand.tmp 30) (Go.Operand.tmp 34) 55, type := 4, pos := "diary.go:117", after := #[{ on := 4, ground := Go.Ground.data }, { on := 8, ground := Go.Ground.data }, { on := 2, ground := Go.Ground.guard }], guard := some (2, true) }) (v := .bool true) rfl (by kernel_rfl) (by kernel_rfl) (by kernel_rfl) (fun _ _ _ h => h) (Or.inl ⟨by rfl, fun w hS => by have h1 := HTB.out; go_simp⟩) hH ?_
            simp only [Act.put, List.setIfInBounds_toArray, List.set_cons_zero, List.set_cons_succ]
            refine wpAnyH_take (i := 10) (oi := { dst := some 36, op := Go.Op.pick (Go.Operand.tmp 28) (Go.Operand.tmp 35) (Go.Operand.const (Go.Value.bool false)), type := 4, pos := "diary.go:117", after := #[{ on := 2, ground := Go.Ground.data }, { on := 9, ground := Go.Ground.data }], guard := none }) (v := .bool true) rfl (by kernel_rfl) (by kernel_rfl) (by kernel_rfl) (fun _ _ _ h => h) (Or.inl ⟨by rfl, fun w hS => by first | rfl | go_simp⟩) hH ?_
            simp only [Act.put, List.setIfInBounds_toArray, List.set_cons_zero, List.set_cons_succ]
            refine wpAnyH_take (i := 11) (oi := { dst := some 25, op := Go.Op.assign (Go.Operand.tmp 36), type := 4, pos := "diary.go:117", after := #[{ on := 10, ground := Go.Ground.data }, { on := 4, ground := Go.Ground.chain }], guard := none }) (v := .bool true) rfl (by kernel_rfl) (by kernel_rfl) (by kernel_rfl) (fun _ _ _ h => h) (Or.inl ⟨by rfl, fun w hS => by first | rfl | go_simp⟩) hH ?_
            simp only [Act.put, List.setIfInBounds_toArray, List.set_cons_zero, List.set_cons_succ]
            clear hH
            refine wpAnyH_done (by kernel_rfl) ?_ _
            have HT5 : Kp (SlStep g v v1 s1 w w5) := ⟨HT4.out.trans (SlStep.same HD4.out.is HB5.out)⟩
            go_wp2_with fail
            go_ret
            have HF : wipeR half s gen 0 = (s1, 0) := by rw [← HR.out, HHK.out, wipeR_told HHE.out ⟨rfl, by rw [← HAT.out, ← HXZ.out]; exact HTL.out⟩]
            exact ⟨v1, reti (by rw [HF]), by rw [HF]; exact HT5.out⟩
          · have HTB : Kp ((toldV xz == gen) = false) := ⟨by simp [htl]⟩
            have HNT : Kp (¬ ((0 : Nat) = 0 ∧ toldV (readZ s1 ((begN s1.n gen + 0 : Nat) : Int)) = gen)) := ⟨fun h => htl (by rw [HXZ.out, HAT.out]; exact h.2)⟩
            clear htl
            refine wp_region_held_drew (S := fun w' => Blk w' db (dObj g gen nx) ∧ Row w' XB 35 .u8 xz) (by kernel_rfl) (⟨HD4.out.b.draw, HX4.out.drew⟩) (fun hH => ?_)
            refine wpAnyH_take (i := 0) (oi := { dst := some 26, op := Go.Op.move (Go.Operand.tmp 3), type := 3, pos := "diary.go:117", after := #[], guard := none }) (v := .int .i64 0) rfl (by kernel_rfl) (by kernel_rfl) (by kernel_rfl) (fun _ _ _ h => h) (Or.inl ⟨by rfl, fun w hS => by first | rfl | go_simp⟩) hH ?_
            simp only [Act.put, List.setIfInBounds_toArray, List.set_cons_zero, List.set_cons_succ]
            refine wpAnyH_take (i := 1) (oi := { dst := some 27, op := Go.Op.binOp Go.BinOp.eql 3 (Go.Operand.tmp 26) (Go.Operand.const (Go.Value.int Go.IntKind.i64 0)) 3, type := 4, pos := "diary.go:117", after := #[{ on := 0, ground := Go.Ground.data }], guard := none }) (v := .bool true) rfl (by kernel_rfl) (by kernel_rfl) (by kernel_rfl) (fun _ _ _ h => h) (Or.inl ⟨by rfl, fun w hS => by first | rfl | go_simp⟩) hH ?_
            simp only [Act.put, List.setIfInBounds_toArray, List.set_cons_zero, List.set_cons_succ]
            refine wpAnyH_take (i := 2) (oi := { dst := some 28, op := Go.Op.move (Go.Operand.tmp 27), type := 4, pos := "diary.go:117", after := #[{ on := 1, ground := Go.Ground.data }], guard := none }) (v := .bool true) rfl (by kernel_rfl) (by kernel_rfl) (by kernel_rfl) (fun _ _ _ h => h) (Or.inl ⟨by rfl, fun w hS => by first | rfl | go_simp⟩) hH ?_
            simp only [Act.put, List.setIfInBounds_toArray, List.set_cons_zero, List.set_cons_succ]
            refine wpAnyH_take (i := 3) (oi := { dst := some 29, op := Go.Op.load 35 (Go.Operand.tmp 4), type := 35, pos := "diary.go:117", after := #[{ on := 2, ground := Go.Ground.guard }], guard := some (2, true) }) (v := sec xz) rfl (by kernel_rfl) (by kernel_rfl) (by kernel_rfl) (fun _ _ _ h => h) (Or.inl ⟨by rfl, fun w hS => exec_load_row rfl rfl hS.2 Try.underlying35 rfl (cells64 HXL.out)⟩) hH ?_
            simp only [Act.put, List.setIfInBounds_toArray, List.set_cons_zero, List.set_cons_succ]
            refine wpAnyH_take (i := 5) (oi := { dst := some 31, op := Go.Op.move (Go.Operand.tmp 0), type := 52, pos := "diary.go:117", after := #[{ on := 2, ground := Go.Ground.guard }], guard := some (2, true) }) (v := .pointer (some ⟨db, 0, none⟩)) rfl (by kernel_rfl) (by kernel_rfl) (by kernel_rfl) (fun _ _ _ h => h) (Or.inl ⟨by rfl, fun w hS => by first | rfl | go_simp⟩) hH ?_
            simp only [Act.put, List.setIfInBounds_toArray, List.set_cons_zero, List.set_cons_succ]
            refine wpAnyH_take (i := 6) (oi := { dst := some 32, op := Go.Op.nilCheck (Go.Operand.tmp 31), type := 0, pos := "diary.go:117", after := #[{ on := 5, ground := Go.Ground.data }, { on := 2, ground := Go.Ground.guard }], guard := some (2, true) }) (v := .pointer (some ⟨db, 0, none⟩)) rfl (by kernel_rfl) (by kernel_rfl) (by kernel_rfl) (fun _ _ _ h => h) (Or.inl ⟨by rfl, fun w hS => by first | rfl | go_simp⟩) hH ?_
            simp only [Act.put, List.setIfInBounds_toArray, List.set_cons_zero, List.set_cons_succ]
            refine wpAnyH_take (i := 7) (oi := { dst := some 33, op := Go.Op.fieldAddr 89 (Go.Operand.tmp 32) 1, type := 0, pos := "diary.go:117", after := #[{ on := 6, ground := Go.Ground.data }, { on := 2, ground := Go.Ground.guard }], guard := some (2, true) }) (v := .pointer (some ⟨db, 1, none⟩)) rfl (by kernel_rfl) (by kernel_rfl) (by kernel_rfl) (fun _ _ _ h => h) (Or.inl ⟨by rfl, fun w hS => by first | rfl | go_simp⟩) hH ?_
            simp only [Act.put, List.setIfInBounds_toArray, List.set_cons_zero, List.set_cons_succ]
            refine wpAnyH_take (i := 8) (oi := { dst := some 34, op := Go.Op.load 55 (Go.Operand.tmp 33), type := 55, pos := "diary.go:117", after := #[{ on := 7, ground := Go.Ground.data }, { on := 2, ground := Go.Ground.guard }], guard := some (2, true) }) (v := .int .u32 gen) rfl (by kernel_rfl) (by kernel_rfl) (by kernel_rfl) (fun _ _ _ h => h) (Or.inl ⟨by rfl, fun w hS => by have h1 := hS.1.cell 1; go_simp⟩) hH ?_
            simp only [Act.put, List.setIfInBounds_toArray, List.set_cons_zero, List.set_cons_succ]
            refine wpAnyH_ready (rs := [4]) (by kernel_rfl) (by simp) ?_
            refine AllReadyH.cons (o := { dst := some 30, op := Go.Op.call { callee := Go.Callee.value (Go.Operand.func 59), args := #[Go.Operand.tmp 29], argTypes := #[35] }, type := 55, pos := "diary.go:117", after := #[{ on := 3, ground := Go.Ground.data }, { on := 2, ground := Go.Ground.chain }, { on := 2, ground := Go.Ground.guard }], guard := some (2, true) }) rfl (fun K hK => ?_) AllReadyH.nil
            go_simp
            refine (told_any xz _ HXL.out HXb.out).mono ?_
            rintro r w5 ⟨rfl, hb5⟩
            have HB5 : Kp (Below W4.heap.size W4 w5) := ⟨(show Below W4.heap.size W4 W4.drew from ⟨rfl, rfl, rfl, Nat.le_refl _, fun _ _ => rfl⟩).trans hb5⟩
            have HD5 := Kp.mk (HD4.out.keep HB5.out)
            have HX5 := Kp.mk (HX4.out.keep HB5.out)
            clear hb5
            refine hK.out _ _ (⟨HD5.out.b, HX5.out⟩) (fun hHn => ?_)
            clear hK K hH
            have hH := hHn
            clear hHn
            try simp only [Act.put, List.setIfInBounds_toArray, List.set_cons_zero, List.set_cons_succ]
            refine wpAnyH_take (i := 9) (oi := { dst := some 35, op := Go.Op.binOp Go.BinOp.eql 55 (Go.Operand.tmp 30) (Go.Operand.tmp 34) 55, type := 4, pos := "diary.go:117", after := #[{ on := 4, ground := Go.Ground.data }, { on := 8, ground := Go.Ground.data }, { on := 2, ground := Go.Ground.guard }], guard := some (2, true) }) (v := .bool false) rfl (by kernel_rfl) (by kernel_rfl) (by kernel_rfl) (fun _ _ _ h => h) (Or.inl ⟨by rfl, fun w hS => by have h1 := HTB.out; go_simp⟩) hH ?_
            simp only [Act.put, List.setIfInBounds_toArray, List.set_cons_zero, List.set_cons_succ]
            refine wpAnyH_take (i := 10) (oi := { dst := some 36, op := Go.Op.pick (Go.Operand.tmp 28) (Go.Operand.tmp 35) (Go.Operand.const (Go.Value.bool false)), type := 4, pos := "diary.go:117", after := #[{ on := 2, ground := Go.Ground.data }, { on := 9, ground := Go.Ground.data }], guard := none }) (v := .bool false) rfl (by kernel_rfl) (by kernel_rfl) (by kernel_rfl) (fun _ _ _ h => h) (Or.inl ⟨by rfl, fun w hS => by first | rfl | go_simp⟩) hH ?_
            simp only [Act.put, List.setIfInBounds_toArray, List.set_cons_zero, List.set_cons_succ]
            refine wpAnyH_take (i := 11) (oi := { dst := some 25, op := Go.Op.assign (Go.Operand.tmp 36), type := 4, pos := "diary.go:117", after := #[{ on := 10, ground := Go.Ground.data }, { on := 4, ground := Go.Ground.chain }], guard := none }) (v := .bool false) rfl (by kernel_rfl) (by kernel_rfl) (by kernel_rfl) (fun _ _ _ h => h) (Or.inl ⟨by rfl, fun w hS => by first | rfl | go_simp⟩) hH ?_
            simp only [Act.put, List.setIfInBounds_toArray, List.set_cons_zero, List.set_cons_succ]
            clear hH
            refine wpAnyH_done (by kernel_rfl) ?_ _
            have HT5 : Kp (SlStep g v v1 s1 w w5) := ⟨HT4.out.trans (SlStep.same HD4.out.is HB5.out)⟩
            obtain ⟨W5, hW5⟩ : ∃ W5, W5 = w5 := ⟨_, rfl⟩
            rw [← hW5] at HT5 HD5 HX5 ⊢
            clear hW5 HD4 HX4 HT4

            go_wp2_with fail
            by_cases hen : endV xz = gen
            · have HEB : Kp ((endV xz != gen) = false) := ⟨by simp [hen]⟩
              have HEN := Kp.mk hen
              clear hen
              refine wp_region_held_drew (S := fun w' => Blk w' db (dObj g gen nx) ∧ Row w' XB 35 .u8 xz) (by kernel_rfl) (⟨HD5.out.b.draw, HX5.out.drew⟩) (fun hH => ?_)
              refine wpAnyH_take (i := 0) (oi := { dst := some 38, op := Go.Op.load 35 (Go.Operand.tmp 4), type := 35, pos := "diary.go:119", after := #[], guard := none }) (v := sec xz) rfl (by kernel_rfl) (by kernel_rfl) (by kernel_rfl) (fun _ _ _ h => h) (Or.inl ⟨by rfl, fun w hS => exec_load_row rfl rfl hS.2 Try.underlying35 rfl (cells64 HXL.out)⟩) hH ?_
              simp only [Act.put, List.setIfInBounds_toArray, List.set_cons_zero, List.set_cons_succ]
              refine wpAnyH_take (i := 2) (oi := { dst := some 40, op := Go.Op.move (Go.Operand.tmp 0), type := 52, pos := "diary.go:119", after := #[], guard := none }) (v := .pointer (some ⟨db, 0, none⟩)) rfl (by kernel_rfl) (by kernel_rfl) (by kernel_rfl) (fun _ _ _ h => h) (Or.inl ⟨by rfl, fun w hS => by first | rfl | go_simp⟩) hH ?_
              simp only [Act.put, List.setIfInBounds_toArray, List.set_cons_zero, List.set_cons_succ]
              refine wpAnyH_take (i := 3) (oi := { dst := some 41, op := Go.Op.nilCheck (Go.Operand.tmp 40), type := 0, pos := "diary.go:119", after := #[{ on := 2, ground := Go.Ground.data }], guard := none }) (v := .pointer (some ⟨db, 0, none⟩)) rfl (by kernel_rfl) (by kernel_rfl) (by kernel_rfl) (fun _ _ _ h => h) (Or.inl ⟨by rfl, fun w hS => by first | rfl | go_simp⟩) hH ?_
              simp only [Act.put, List.setIfInBounds_toArray, List.set_cons_zero, List.set_cons_succ]
              refine wpAnyH_take (i := 4) (oi := { dst := some 42, op := Go.Op.fieldAddr 89 (Go.Operand.tmp 41) 1, type := 0, pos := "diary.go:119", after := #[{ on := 3, ground := Go.Ground.data }], guard := none }) (v := .pointer (some ⟨db, 1, none⟩)) rfl (by kernel_rfl) (by kernel_rfl) (by kernel_rfl) (fun _ _ _ h => h) (Or.inl ⟨by rfl, fun w hS => by first | rfl | go_simp⟩) hH ?_
              simp only [Act.put, List.setIfInBounds_toArray, List.set_cons_zero, List.set_cons_succ]
              refine wpAnyH_take (i := 5) (oi := { dst := some 43, op := Go.Op.load 55 (Go.Operand.tmp 42), type := 55, pos := "diary.go:119", after := #[{ on := 4, ground := Go.Ground.data }], guard := none }) (v := .int .u32 gen) rfl (by kernel_rfl) (by kernel_rfl) (by kernel_rfl) (fun _ _ _ h => h) (Or.inl ⟨by rfl, fun w hS => by have h1 := hS.1.cell 1; go_simp⟩) hH ?_
              simp only [Act.put, List.setIfInBounds_toArray, List.set_cons_zero, List.set_cons_succ]
              refine wpAnyH_ready (rs := [1]) (by kernel_rfl) (by simp) ?_
              refine AllReadyH.cons (o := { dst := some 39, op := Go.Op.call { callee := Go.Callee.value (Go.Operand.func 63), args := #[Go.Operand.tmp 38], argTypes := #[35] }, type := 55, pos := "diary.go:119", after := #[{ on := 0, ground := Go.Ground.data }], guard := none }) rfl (fun K hK => ?_) AllReadyH.nil
              go_simp
              refine (ending_any xz _ HXL.out HXb.out).mono ?_
              rintro r w6 ⟨rfl, hb6⟩
              have HB6 : Kp (Below W5.heap.size W5 w6) := ⟨(show Below W5.heap.size W5 W5.drew from ⟨rfl, rfl, rfl, Nat.le_refl _, fun _ _ => rfl⟩).trans hb6⟩
              have HD6 := Kp.mk (HD5.out.keep HB6.out)
              have HX6 := Kp.mk (HX5.out.keep HB6.out)
              have HT6 : Kp (SlStep g v v1 s1 w w6) := ⟨HT5.out.trans (SlStep.same HD5.out.is HB6.out)⟩
              clear hb6
              refine hK.out _ _ (⟨HD6.out.b, HX6.out⟩) (fun hHn => ?_)
              clear hK K hH
              have hH := hHn
              clear hHn
              try simp only [Act.put, List.setIfInBounds_toArray, List.set_cons_zero, List.set_cons_succ]
              refine wpAnyH_take (i := 6) (oi := { dst := some 44, op := Go.Op.binOp Go.BinOp.neq 55 (Go.Operand.tmp 39) (Go.Operand.tmp 43) 55, type := 4, pos := "diary.go:119", after := #[{ on := 1, ground := Go.Ground.data }, { on := 5, ground := Go.Ground.data }], guard := none }) (v := .bool false) rfl (by kernel_rfl) (by kernel_rfl) (by kernel_rfl) (fun _ _ _ h => h) (Or.inl ⟨by rfl, fun w hS => by have h1 := HEB.out; go_simp⟩) hH ?_
              simp only [Act.put, List.setIfInBounds_toArray, List.set_cons_zero, List.set_cons_succ]
              refine wpAnyH_take (i := 7) (oi := { dst := some 37, op := Go.Op.assign (Go.Operand.tmp 44), type := 4, pos := "diary.go:119", after := #[{ on := 6, ground := Go.Ground.data }, { on := 1, ground := Go.Ground.chain }], guard := none }) (v := .bool false) rfl (by kernel_rfl) (by kernel_rfl) (by kernel_rfl) (fun _ _ _ h => h) (Or.inl ⟨by rfl, fun w hS => by first | rfl | go_simp⟩) hH ?_
              simp only [Act.put, List.setIfInBounds_toArray, List.set_cons_zero, List.set_cons_succ]
              clear hH
              refine wpAnyH_done (by kernel_rfl) ?_ _
              clear HT5 HX5 HD5
              go_wp2_with (refine wpList_val rfl (exec_build35z rfl) ?_)
              refine (dwrite_any db g v1 s1 gen nx 0 z64 _ HD6.out HKP.out z64_len z64_b HST.out HQL.out).mono ?_
              rintro r w7 ⟨v2, rfl, h7⟩
              rw [← HAT.out] at h7
              have HT7 := Kp.mk (HT6.out.trans h7)
              clear h7
              rw [← HAT.out]
              by_cases hwe : writeE s1 (at_ : Nat) = 0
              · have HWE := Kp.mk hwe
                rw [hwe]
                clear hwe
                go_wp2_with fail
                go_roundw
                case rel =>
                  obtain ⟨e1, e2, e3, e4⟩ := writeS_yes (z := z64) HWE.out
                  refine ⟨0 + 1, writeS s1 (at_ : Nat) z64, v2, by omega, by first | rfl | go_num, HT7.out, ?_, e3.trans HN1.out, by have := HSB.out.1; omega, by rw [e2, List.length_append, List.length_singleton]; have := HSB.out.2; omega⟩
                  rw [← HR.out, HHK.out, wipeR_write HHE.out (fun h => HNT.out ⟨trivial, h.2⟩) (by rw [← HAT.out, ← HXZ.out]; exact HEN.out) (by rw [← HAT.out]; exact HWE.out), ← HAT.out]
                case measure => simp [intOf]; omega
              · have HWE := Kp.mk hwe
                obtain ⟨e, hee⟩ : ∃ e, e = writeE s1 (at_ : Nat) := ⟨_, rfl⟩
                have HEE := Kp.mk hee
                rw [← hee] at hwe ⊢
                have he0 : (e != 0) = true := by simp [hwe]
                clear hwe hee
                go_wp2_with fail
                go_ret
                have HF : wipeR half s gen 0 = (writeS s1 (at_ : Nat) z64, e) := by rw [← HR.out, HHK.out, wipeR_bad HHE.out (fun h => HNT.out ⟨trivial, h.2⟩) (by rw [← HAT.out, ← HXZ.out]; exact HEN.out) (by rw [← HAT.out]; exact HWE.out), ← HAT.out, HEE.out]
                exact ⟨v2, reti (by rw [HF]), by rw [HF]; exact HT7.out⟩
            · have HEB : Kp ((endV xz != gen) = true) := ⟨by simp [hen]⟩
              have HEN := Kp.mk hen
              clear hen
              refine wp_region_held_drew (S := fun w' => Blk w' db (dObj g gen nx) ∧ Row w' XB 35 .u8 xz) (by kernel_rfl) (⟨HD5.out.b.draw, HX5.out.drew⟩) (fun hH => ?_)
              refine wpAnyH_take (i := 0) (oi := { dst := some 38, op := Go.Op.load 35 (Go.Operand.tmp 4), type := 35, pos := "diary.go:119", after := #[], guard := none }) (v := sec xz) rfl (by kernel_rfl) (by kernel_rfl) (by kernel_rfl) (fun _ _ _ h => h) (Or.inl ⟨by rfl, fun w hS => exec_load_row rfl rfl hS.2 Try.underlying35 rfl (cells64 HXL.out)⟩) hH ?_
              simp only [Act.put, List.setIfInBounds_toArray, List.set_cons_zero, List.set_cons_succ]
              refine wpAnyH_take (i := 2) (oi := { dst := some 40, op := Go.Op.move (Go.Operand.tmp 0), type := 52, pos := "diary.go:119", after := #[], guard := none }) (v := .pointer (some ⟨db, 0, none⟩)) rfl (by kernel_rfl) (by kernel_rfl) (by kernel_rfl) (fun _ _ _ h => h) (Or.inl ⟨by rfl, fun w hS => by first | rfl | go_simp⟩) hH ?_
              simp only [Act.put, List.setIfInBounds_toArray, List.set_cons_zero, List.set_cons_succ]
              refine wpAnyH_take (i := 3) (oi := { dst := some 41, op := Go.Op.nilCheck (Go.Operand.tmp 40), type := 0, pos := "diary.go:119", after := #[{ on := 2, ground := Go.Ground.data }], guard := none }) (v := .pointer (some ⟨db, 0, none⟩)) rfl (by kernel_rfl) (by kernel_rfl) (by kernel_rfl) (fun _ _ _ h => h) (Or.inl ⟨by rfl, fun w hS => by first | rfl | go_simp⟩) hH ?_
              simp only [Act.put, List.setIfInBounds_toArray, List.set_cons_zero, List.set_cons_succ]
              refine wpAnyH_take (i := 4) (oi := { dst := some 42, op := Go.Op.fieldAddr 89 (Go.Operand.tmp 41) 1, type := 0, pos := "diary.go:119", after := #[{ on := 3, ground := Go.Ground.data }], guard := none }) (v := .pointer (some ⟨db, 1, none⟩)) rfl (by kernel_rfl) (by kernel_rfl) (by kernel_rfl) (fun _ _ _ h => h) (Or.inl ⟨by rfl, fun w hS => by first | rfl | go_simp⟩) hH ?_
              simp only [Act.put, List.setIfInBounds_toArray, List.set_cons_zero, List.set_cons_succ]
              refine wpAnyH_take (i := 5) (oi := { dst := some 43, op := Go.Op.load 55 (Go.Operand.tmp 42), type := 55, pos := "diary.go:119", after := #[{ on := 4, ground := Go.Ground.data }], guard := none }) (v := .int .u32 gen) rfl (by kernel_rfl) (by kernel_rfl) (by kernel_rfl) (fun _ _ _ h => h) (Or.inl ⟨by rfl, fun w hS => by have h1 := hS.1.cell 1; go_simp⟩) hH ?_
              simp only [Act.put, List.setIfInBounds_toArray, List.set_cons_zero, List.set_cons_succ]
              refine wpAnyH_ready (rs := [1]) (by kernel_rfl) (by simp) ?_
              refine AllReadyH.cons (o := { dst := some 39, op := Go.Op.call { callee := Go.Callee.value (Go.Operand.func 63), args := #[Go.Operand.tmp 38], argTypes := #[35] }, type := 55, pos := "diary.go:119", after := #[{ on := 0, ground := Go.Ground.data }], guard := none }) rfl (fun K hK => ?_) AllReadyH.nil
              go_simp
              refine (ending_any xz _ HXL.out HXb.out).mono ?_
              rintro r w6 ⟨rfl, hb6⟩
              have HB6 : Kp (Below W5.heap.size W5 w6) := ⟨(show Below W5.heap.size W5 W5.drew from ⟨rfl, rfl, rfl, Nat.le_refl _, fun _ _ => rfl⟩).trans hb6⟩
              have HD6 := Kp.mk (HD5.out.keep HB6.out)
              have HX6 := Kp.mk (HX5.out.keep HB6.out)
              have HT6 : Kp (SlStep g v v1 s1 w w6) := ⟨HT5.out.trans (SlStep.same HD5.out.is HB6.out)⟩
              clear hb6
              refine hK.out _ _ (⟨HD6.out.b, HX6.out⟩) (fun hHn => ?_)
              clear hK K hH
              have hH := hHn
              clear hHn
              try simp only [Act.put, List.setIfInBounds_toArray, List.set_cons_zero, List.set_cons_succ]
              refine wpAnyH_take (i := 6) (oi := { dst := some 44, op := Go.Op.binOp Go.BinOp.neq 55 (Go.Operand.tmp 39) (Go.Operand.tmp 43) 55, type := 4, pos := "diary.go:119", after := #[{ on := 1, ground := Go.Ground.data }, { on := 5, ground := Go.Ground.data }], guard := none }) (v := .bool true) rfl (by kernel_rfl) (by kernel_rfl) (by kernel_rfl) (fun _ _ _ h => h) (Or.inl ⟨by rfl, fun w hS => by have h1 := HEB.out; go_simp⟩) hH ?_
              simp only [Act.put, List.setIfInBounds_toArray, List.set_cons_zero, List.set_cons_succ]
              refine wpAnyH_take (i := 7) (oi := { dst := some 37, op := Go.Op.assign (Go.Operand.tmp 44), type := 4, pos := "diary.go:119", after := #[{ on := 6, ground := Go.Ground.data }, { on := 1, ground := Go.Ground.chain }], guard := none }) (v := .bool true) rfl (by kernel_rfl) (by kernel_rfl) (by kernel_rfl) (fun _ _ _ h => h) (Or.inl ⟨by rfl, fun w hS => by first | rfl | go_simp⟩) hH ?_
              simp only [Act.put, List.setIfInBounds_toArray, List.set_cons_zero, List.set_cons_succ]
              clear hH
              refine wpAnyH_done (by kernel_rfl) ?_ _
              go_wp2_with fail
              go_roundw
              case rel =>
                refine ⟨0 + 1, s1, v1, by omega, by first | rfl | go_num, HT6.out, ?_, HN1.out, by have := HSB.out.1; omega, by have := HSB.out.2; omega⟩
                rw [← HR.out, HHK.out, wipeR_next HHE.out (fun h => HNT.out ⟨trivial, h.2⟩) (by rw [← HAT.out, ← HXZ.out]; exact HEN.out)]
              case measure => simp [intOf]; omega
        · have HK0 : Kp (((k : Int) == 0) = false) := ⟨by simp; omega⟩
          have HNT : Kp (¬ (k = 0 ∧ toldV (readZ s1 ((begN s1.n gen + k : Nat) : Int)) = gen)) := ⟨fun h => hk0 h.1⟩
          clear hk0
          refine wp_region_held_drew (S := fun w' => Blk w' db (dObj g gen nx) ∧ Row w' XB 35 .u8 xz) (by kernel_rfl) (⟨HD4.out.b.draw, HX4.out.drew⟩) (fun hH => ?_)
          refine wpAnyH_take (i := 0) (oi := { dst := some 26, op := Go.Op.move (Go.Operand.tmp 3), type := 3, pos := "diary.go:117", after := #[], guard := none }) (v := .int .i64 (k : Nat)) rfl (by kernel_rfl) (by kernel_rfl) (by kernel_rfl) (fun _ _ _ h => h) (Or.inl ⟨by rfl, fun w hS => by first | rfl | go_simp⟩) hH ?_
          simp only [Act.put, List.setIfInBounds_toArray, List.set_cons_zero, List.set_cons_succ]
          refine wpAnyH_take (i := 1) (oi := { dst := some 27, op := Go.Op.binOp Go.BinOp.eql 3 (Go.Operand.tmp 26) (Go.Operand.const (Go.Value.int Go.IntKind.i64 0)) 3, type := 4, pos := "diary.go:117", after := #[{ on := 0, ground := Go.Ground.data }], guard := none }) (v := .bool false) rfl (by kernel_rfl) (by kernel_rfl) (by kernel_rfl) (fun _ _ _ h => h) (Or.inl ⟨by rfl, fun w hS => by have h1 := HK0.out; go_simp⟩) hH ?_
          simp only [Act.put, List.setIfInBounds_toArray, List.set_cons_zero, List.set_cons_succ]
          refine wpAnyH_take (i := 2) (oi := { dst := some 28, op := Go.Op.move (Go.Operand.tmp 27), type := 4, pos := "diary.go:117", after := #[{ on := 1, ground := Go.Ground.data }], guard := none }) (v := .bool false) rfl (by kernel_rfl) (by kernel_rfl) (by kernel_rfl) (fun _ _ _ h => h) (Or.inl ⟨by rfl, fun w hS => by first | rfl | go_simp⟩) hH ?_
          simp only [Act.put, List.setIfInBounds_toArray, List.set_cons_zero, List.set_cons_succ]
          refine wpAnyH_take (i := 3) (oi := { dst := some 29, op := Go.Op.load 35 (Go.Operand.tmp 4), type := 35, pos := "diary.go:117", after := #[{ on := 2, ground := Go.Ground.guard }], guard := some (2, true) }) (v := undef) rfl (by kernel_rfl) (by kernel_rfl) (by kernel_rfl) (fun _ _ _ h => h) (Or.inr ⟨by rfl, rfl⟩) hH ?_
          simp only [Act.put, List.setIfInBounds_toArray, List.set_cons_zero, List.set_cons_succ]
          refine wpAnyH_take (i := 5) (oi := { dst := some 31, op := Go.Op.move (Go.Operand.tmp 0), type := 52, pos := "diary.go:117", after := #[{ on := 2, ground := Go.Ground.guard }], guard := some (2, true) }) (v := undef) rfl (by kernel_rfl) (by kernel_rfl) (by kernel_rfl) (fun _ _ _ h => h) (Or.inr ⟨by rfl, rfl⟩) hH ?_
          simp only [Act.put, List.setIfInBounds_toArray, List.set_cons_zero, List.set_cons_succ]
          refine wpAnyH_take (i := 6) (oi := { dst := some 32, op := Go.Op.nilCheck (Go.Operand.tmp 31), type := 0, pos := "diary.go:117", after := #[{ on := 5, ground := Go.Ground.data }, { on := 2, ground := Go.Ground.guard }], guard := some (2, true) }) (v := undef) rfl (by kernel_rfl) (by kernel_rfl) (by kernel_rfl) (fun _ _ _ h => h) (Or.inr ⟨by rfl, rfl⟩) hH ?_
          simp only [Act.put, List.setIfInBounds_toArray, List.set_cons_zero, List.set_cons_succ]
          refine wpAnyH_take (i := 7) (oi := { dst := some 33, op := Go.Op.fieldAddr 89 (Go.Operand.tmp 32) 1, type := 0, pos := "diary.go:117", after := #[{ on := 6, ground := Go.Ground.data }, { on := 2, ground := Go.Ground.guard }], guard := some (2, true) }) (v := undef) rfl (by kernel_rfl) (by kernel_rfl) (by kernel_rfl) (fun _ _ _ h => h) (Or.inr ⟨by rfl, rfl⟩) hH ?_
          simp only [Act.put, List.setIfInBounds_toArray, List.set_cons_zero, List.set_cons_succ]
          refine wpAnyH_take (i := 8) (oi := { dst := some 34, op := Go.Op.load 55 (Go.Operand.tmp 33), type := 55, pos := "diary.go:117", after := #[{ on := 7, ground := Go.Ground.data }, { on := 2, ground := Go.Ground.guard }], guard := some (2, true) }) (v := undef) rfl (by kernel_rfl) (by kernel_rfl) (by kernel_rfl) (fun _ _ _ h => h) (Or.inr ⟨by rfl, rfl⟩) hH ?_
          simp only [Act.put, List.setIfInBounds_toArray, List.set_cons_zero, List.set_cons_succ]
          refine wpAnyH_take (i := 4) (oi := { dst := some 30, op := Go.Op.call { callee := Go.Callee.value (Go.Operand.func 59), args := #[Go.Operand.tmp 29], argTypes := #[35] }, type := 55, pos := "diary.go:117", after := #[{ on := 3, ground := Go.Ground.data }, { on := 2, ground := Go.Ground.chain }, { on := 2, ground := Go.Ground.guard }], guard := some (2, true) }) (v := undef) rfl (by kernel_rfl) (by kernel_rfl) (by kernel_rfl) (fun _ _ _ h => h) (Or.inr ⟨by rfl, rfl⟩) hH ?_
          simp only [Act.put, List.setIfInBounds_toArray, List.set_cons_zero, List.set_cons_succ]
          refine wpAnyH_take (i := 9) (oi := { dst := some 35, op := Go.Op.binOp Go.BinOp.eql 55 (Go.Operand.tmp 30) (Go.Operand.tmp 34) 55, type := 4, pos := "diary.go:117", after := #[{ on := 4, ground := Go.Ground.data }, { on := 8, ground := Go.Ground.data }, { on := 2, ground := Go.Ground.guard }], guard := some (2, true) }) (v := undef) rfl (by kernel_rfl) (by kernel_rfl) (by kernel_rfl) (fun _ _ _ h => h) (Or.inr ⟨by rfl, rfl⟩) hH ?_
          simp only [Act.put, List.setIfInBounds_toArray, List.set_cons_zero, List.set_cons_succ]
          refine wpAnyH_take (i := 10) (oi := { dst := some 36, op := Go.Op.pick (Go.Operand.tmp 28) (Go.Operand.tmp 35) (Go.Operand.const (Go.Value.bool false)), type := 4, pos := "diary.go:117", after := #[{ on := 2, ground := Go.Ground.data }, { on := 9, ground := Go.Ground.data }], guard := none }) (v := .bool false) rfl (by kernel_rfl) (by kernel_rfl) (by kernel_rfl) (fun _ _ _ h => h) (Or.inl ⟨by rfl, fun w hS => by first | rfl | go_simp⟩) hH ?_
          simp only [Act.put, List.setIfInBounds_toArray, List.set_cons_zero, List.set_cons_succ]
          refine wpAnyH_take (i := 11) (oi := { dst := some 25, op := Go.Op.assign (Go.Operand.tmp 36), type := 4, pos := "diary.go:117", after := #[{ on := 10, ground := Go.Ground.data }, { on := 4, ground := Go.Ground.chain }], guard := none }) (v := .bool false) rfl (by kernel_rfl) (by kernel_rfl) (by kernel_rfl) (fun _ _ _ h => h) (Or.inl ⟨by rfl, fun w hS => by first | rfl | go_simp⟩) hH ?_
          simp only [Act.put, List.setIfInBounds_toArray, List.set_cons_zero, List.set_cons_succ]
          clear hH
          refine wpAnyH_done (by kernel_rfl) ?_ _
          have HD5 := Kp.mk HD4.out.drew
          have HX5 := Kp.mk HX4.out.drew
          have HT5 : Kp (SlStep g v v1 s1 w W4.drew) := ⟨HT4.out.trans (SlStep.same HD4.out.is (show Below W4.heap.size W4 W4.drew from ⟨rfl, rfl, rfl, Nat.le_refl _, fun _ _ => rfl⟩))⟩
          obtain ⟨W5, hW5⟩ : ∃ W5, W5 = W4.drew := ⟨_, rfl⟩
          rw [← hW5] at HT5 HD5 HX5 ⊢
          clear hW5 HD4 HX4 HT4

          go_wp2_with fail
          by_cases hen : endV xz = gen
          · have HEB : Kp ((endV xz != gen) = false) := ⟨by simp [hen]⟩
            have HEN := Kp.mk hen
            clear hen
            refine wp_region_held_drew (S := fun w' => Blk w' db (dObj g gen nx) ∧ Row w' XB 35 .u8 xz) (by kernel_rfl) (⟨HD5.out.b.draw, HX5.out.drew⟩) (fun hH => ?_)
            refine wpAnyH_take (i := 0) (oi := { dst := some 38, op := Go.Op.load 35 (Go.Operand.tmp 4), type := 35, pos := "diary.go:119", after := #[], guard := none }) (v := sec xz) rfl (by kernel_rfl) (by kernel_rfl) (by kernel_rfl) (fun _ _ _ h => h) (Or.inl ⟨by rfl, fun w hS => exec_load_row rfl rfl hS.2 Try.underlying35 rfl (cells64 HXL.out)⟩) hH ?_
            simp only [Act.put, List.setIfInBounds_toArray, List.set_cons_zero, List.set_cons_succ]
            refine wpAnyH_take (i := 2) (oi := { dst := some 40, op := Go.Op.move (Go.Operand.tmp 0), type := 52, pos := "diary.go:119", after := #[], guard := none }) (v := .pointer (some ⟨db, 0, none⟩)) rfl (by kernel_rfl) (by kernel_rfl) (by kernel_rfl) (fun _ _ _ h => h) (Or.inl ⟨by rfl, fun w hS => by first | rfl | go_simp⟩) hH ?_
            simp only [Act.put, List.setIfInBounds_toArray, List.set_cons_zero, List.set_cons_succ]
            refine wpAnyH_take (i := 3) (oi := { dst := some 41, op := Go.Op.nilCheck (Go.Operand.tmp 40), type := 0, pos := "diary.go:119", after := #[{ on := 2, ground := Go.Ground.data }], guard := none }) (v := .pointer (some ⟨db, 0, none⟩)) rfl (by kernel_rfl) (by kernel_rfl) (by kernel_rfl) (fun _ _ _ h => h) (Or.inl ⟨by rfl, fun w hS => by first | rfl | go_simp⟩) hH ?_
            simp only [Act.put, List.setIfInBounds_toArray, List.set_cons_zero, List.set_cons_succ]
            refine wpAnyH_take (i := 4) (oi := { dst := some 42, op := Go.Op.fieldAddr 89 (Go.Operand.tmp 41) 1, type := 0, pos := "diary.go:119", after := #[{ on := 3, ground := Go.Ground.data }], guard := none }) (v := .pointer (some ⟨db, 1, none⟩)) rfl (by kernel_rfl) (by kernel_rfl) (by kernel_rfl) (fun _ _ _ h => h) (Or.inl ⟨by rfl, fun w hS => by first | rfl | go_simp⟩) hH ?_
            simp only [Act.put, List.setIfInBounds_toArray, List.set_cons_zero, List.set_cons_succ]
            refine wpAnyH_take (i := 5) (oi := { dst := some 43, op := Go.Op.load 55 (Go.Operand.tmp 42), type := 55, pos := "diary.go:119", after := #[{ on := 4, ground := Go.Ground.data }], guard := none }) (v := .int .u32 gen) rfl (by kernel_rfl) (by kernel_rfl) (by kernel_rfl) (fun _ _ _ h => h) (Or.inl ⟨by rfl, fun w hS => by have h1 := hS.1.cell 1; go_simp⟩) hH ?_
            simp only [Act.put, List.setIfInBounds_toArray, List.set_cons_zero, List.set_cons_succ]
            refine wpAnyH_ready (rs := [1]) (by kernel_rfl) (by simp) ?_
            refine AllReadyH.cons (o := { dst := some 39, op := Go.Op.call { callee := Go.Callee.value (Go.Operand.func 63), args := #[Go.Operand.tmp 38], argTypes := #[35] }, type := 55, pos := "diary.go:119", after := #[{ on := 0, ground := Go.Ground.data }], guard := none }) rfl (fun K hK => ?_) AllReadyH.nil
            go_simp
            refine (ending_any xz _ HXL.out HXb.out).mono ?_
            rintro r w6 ⟨rfl, hb6⟩
            have HB6 : Kp (Below W5.heap.size W5 w6) := ⟨(show Below W5.heap.size W5 W5.drew from ⟨rfl, rfl, rfl, Nat.le_refl _, fun _ _ => rfl⟩).trans hb6⟩
            have HD6 := Kp.mk (HD5.out.keep HB6.out)
            have HX6 := Kp.mk (HX5.out.keep HB6.out)
            have HT6 : Kp (SlStep g v v1 s1 w w6) := ⟨HT5.out.trans (SlStep.same HD5.out.is HB6.out)⟩
            clear hb6
            refine hK.out _ _ (⟨HD6.out.b, HX6.out⟩) (fun hHn => ?_)
            clear hK K hH
            have hH := hHn
            clear hHn
            try simp only [Act.put, List.setIfInBounds_toArray, List.set_cons_zero, List.set_cons_succ]
            refine wpAnyH_take (i := 6) (oi := { dst := some 44, op := Go.Op.binOp Go.BinOp.neq 55 (Go.Operand.tmp 39) (Go.Operand.tmp 43) 55, type := 4, pos := "diary.go:119", after := #[{ on := 1, ground := Go.Ground.data }, { on := 5, ground := Go.Ground.data }], guard := none }) (v := .bool false) rfl (by kernel_rfl) (by kernel_rfl) (by kernel_rfl) (fun _ _ _ h => h) (Or.inl ⟨by rfl, fun w hS => by have h1 := HEB.out; go_simp⟩) hH ?_
            simp only [Act.put, List.setIfInBounds_toArray, List.set_cons_zero, List.set_cons_succ]
            refine wpAnyH_take (i := 7) (oi := { dst := some 37, op := Go.Op.assign (Go.Operand.tmp 44), type := 4, pos := "diary.go:119", after := #[{ on := 6, ground := Go.Ground.data }, { on := 1, ground := Go.Ground.chain }], guard := none }) (v := .bool false) rfl (by kernel_rfl) (by kernel_rfl) (by kernel_rfl) (fun _ _ _ h => h) (Or.inl ⟨by rfl, fun w hS => by first | rfl | go_simp⟩) hH ?_
            simp only [Act.put, List.setIfInBounds_toArray, List.set_cons_zero, List.set_cons_succ]
            clear hH
            refine wpAnyH_done (by kernel_rfl) ?_ _
            clear HT5 HX5 HD5
            go_wp2_with (refine wpList_val rfl (exec_build35z rfl) ?_)
            refine (dwrite_any db g v1 s1 gen nx k z64 _ HD6.out HKP.out z64_len z64_b HST.out HQL.out).mono ?_
            rintro r w7 ⟨v2, rfl, h7⟩
            rw [← HAT.out] at h7
            have HT7 := Kp.mk (HT6.out.trans h7)
            clear h7
            rw [← HAT.out]
            by_cases hwe : writeE s1 (at_ : Nat) = 0
            · have HWE := Kp.mk hwe
              rw [hwe]
              clear hwe
              go_wp2_with fail
              go_roundw
              case rel =>
                obtain ⟨e1, e2, e3, e4⟩ := writeS_yes (z := z64) HWE.out
                refine ⟨k + 1, writeS s1 (at_ : Nat) z64, v2, by omega, by first | rfl | go_num, HT7.out, ?_, e3.trans HN1.out, by have := HSB.out.1; omega, by rw [e2, List.length_append, List.length_singleton]; have := HSB.out.2; omega⟩
                rw [← HR.out, HHK.out, wipeR_write HHE.out HNT.out (by rw [← HAT.out, ← HXZ.out]; exact HEN.out) (by rw [← HAT.out]; exact HWE.out), ← HAT.out]
              case measure => simp [intOf]; omega
            · have HWE := Kp.mk hwe
              obtain ⟨e, hee⟩ : ∃ e, e = writeE s1 (at_ : Nat) := ⟨_, rfl⟩
              have HEE := Kp.mk hee
              rw [← hee] at hwe ⊢
              have he0 : (e != 0) = true := by simp [hwe]
              clear hwe hee
              go_wp2_with fail
              go_ret
              have HF : wipeR half s gen 0 = (writeS s1 (at_ : Nat) z64, e) := by rw [← HR.out, HHK.out, wipeR_bad HHE.out HNT.out (by rw [← HAT.out, ← HXZ.out]; exact HEN.out) (by rw [← HAT.out]; exact HWE.out), ← HAT.out, HEE.out]
              exact ⟨v2, reti (by rw [HF]), by rw [HF]; exact HT7.out⟩
          · have HEB : Kp ((endV xz != gen) = true) := ⟨by simp [hen]⟩
            have HEN := Kp.mk hen
            clear hen
            refine wp_region_held_drew (S := fun w' => Blk w' db (dObj g gen nx) ∧ Row w' XB 35 .u8 xz) (by kernel_rfl) (⟨HD5.out.b.draw, HX5.out.drew⟩) (fun hH => ?_)
            refine wpAnyH_take (i := 0) (oi := { dst := some 38, op := Go.Op.load 35 (Go.Operand.tmp 4), type := 35, pos := "diary.go:119", after := #[], guard := none }) (v := sec xz) rfl (by kernel_rfl) (by kernel_rfl) (by kernel_rfl) (fun _ _ _ h => h) (Or.inl ⟨by rfl, fun w hS => exec_load_row rfl rfl hS.2 Try.underlying35 rfl (cells64 HXL.out)⟩) hH ?_
            simp only [Act.put, List.setIfInBounds_toArray, List.set_cons_zero, List.set_cons_succ]
            refine wpAnyH_take (i := 2) (oi := { dst := some 40, op := Go.Op.move (Go.Operand.tmp 0), type := 52, pos := "diary.go:119", after := #[], guard := none }) (v := .pointer (some ⟨db, 0, none⟩)) rfl (by kernel_rfl) (by kernel_rfl) (by kernel_rfl) (fun _ _ _ h => h) (Or.inl ⟨by rfl, fun w hS => by first | rfl | go_simp⟩) hH ?_
            simp only [Act.put, List.setIfInBounds_toArray, List.set_cons_zero, List.set_cons_succ]
            refine wpAnyH_take (i := 3) (oi := { dst := some 41, op := Go.Op.nilCheck (Go.Operand.tmp 40), type := 0, pos := "diary.go:119", after := #[{ on := 2, ground := Go.Ground.data }], guard := none }) (v := .pointer (some ⟨db, 0, none⟩)) rfl (by kernel_rfl) (by kernel_rfl) (by kernel_rfl) (fun _ _ _ h => h) (Or.inl ⟨by rfl, fun w hS => by first | rfl | go_simp⟩) hH ?_
            simp only [Act.put, List.setIfInBounds_toArray, List.set_cons_zero, List.set_cons_succ]
            refine wpAnyH_take (i := 4) (oi := { dst := some 42, op := Go.Op.fieldAddr 89 (Go.Operand.tmp 41) 1, type := 0, pos := "diary.go:119", after := #[{ on := 3, ground := Go.Ground.data }], guard := none }) (v := .pointer (some ⟨db, 1, none⟩)) rfl (by kernel_rfl) (by kernel_rfl) (by kernel_rfl) (fun _ _ _ h => h) (Or.inl ⟨by rfl, fun w hS => by first | rfl | go_simp⟩) hH ?_
            simp only [Act.put, List.setIfInBounds_toArray, List.set_cons_zero, List.set_cons_succ]
            refine wpAnyH_take (i := 5) (oi := { dst := some 43, op := Go.Op.load 55 (Go.Operand.tmp 42), type := 55, pos := "diary.go:119", after := #[{ on := 4, ground := Go.Ground.data }], guard := none }) (v := .int .u32 gen) rfl (by kernel_rfl) (by kernel_rfl) (by kernel_rfl) (fun _ _ _ h => h) (Or.inl ⟨by rfl, fun w hS => by have h1 := hS.1.cell 1; go_simp⟩) hH ?_
            simp only [Act.put, List.setIfInBounds_toArray, List.set_cons_zero, List.set_cons_succ]
            refine wpAnyH_ready (rs := [1]) (by kernel_rfl) (by simp) ?_
            refine AllReadyH.cons (o := { dst := some 39, op := Go.Op.call { callee := Go.Callee.value (Go.Operand.func 63), args := #[Go.Operand.tmp 38], argTypes := #[35] }, type := 55, pos := "diary.go:119", after := #[{ on := 0, ground := Go.Ground.data }], guard := none }) rfl (fun K hK => ?_) AllReadyH.nil
            go_simp
            refine (ending_any xz _ HXL.out HXb.out).mono ?_
            rintro r w6 ⟨rfl, hb6⟩
            have HB6 : Kp (Below W5.heap.size W5 w6) := ⟨(show Below W5.heap.size W5 W5.drew from ⟨rfl, rfl, rfl, Nat.le_refl _, fun _ _ => rfl⟩).trans hb6⟩
            have HD6 := Kp.mk (HD5.out.keep HB6.out)
            have HX6 := Kp.mk (HX5.out.keep HB6.out)
            have HT6 : Kp (SlStep g v v1 s1 w w6) := ⟨HT5.out.trans (SlStep.same HD5.out.is HB6.out)⟩
            clear hb6
            refine hK.out _ _ (⟨HD6.out.b, HX6.out⟩) (fun hHn => ?_)
            clear hK K hH
            have hH := hHn
            clear hHn
            try simp only [Act.put, List.setIfInBounds_toArray, List.set_cons_zero, List.set_cons_succ]
            refine wpAnyH_take (i := 6) (oi := { dst := some 44, op := Go.Op.binOp Go.BinOp.neq 55 (Go.Operand.tmp 39) (Go.Operand.tmp 43) 55, type := 4, pos := "diary.go:119", after := #[{ on := 1, ground := Go.Ground.data }, { on := 5, ground := Go.Ground.data }], guard := none }) (v := .bool true) rfl (by kernel_rfl) (by kernel_rfl) (by kernel_rfl) (fun _ _ _ h => h) (Or.inl ⟨by rfl, fun w hS => by have h1 := HEB.out; go_simp⟩) hH ?_
            simp only [Act.put, List.setIfInBounds_toArray, List.set_cons_zero, List.set_cons_succ]
            refine wpAnyH_take (i := 7) (oi := { dst := some 37, op := Go.Op.assign (Go.Operand.tmp 44), type := 4, pos := "diary.go:119", after := #[{ on := 6, ground := Go.Ground.data }, { on := 1, ground := Go.Ground.chain }], guard := none }) (v := .bool true) rfl (by kernel_rfl) (by kernel_rfl) (by kernel_rfl) (fun _ _ _ h => h) (Or.inl ⟨by rfl, fun w hS => by first | rfl | go_simp⟩) hH ?_
            simp only [Act.put, List.setIfInBounds_toArray, List.set_cons_zero, List.set_cons_succ]
            clear hH
            refine wpAnyH_done (by kernel_rfl) ?_ _
            go_wp2_with fail
            go_roundw
            case rel =>
              refine ⟨k + 1, s1, v1, by omega, by first | rfl | go_num, HT6.out, ?_, HN1.out, by have := HSB.out.1; omega, by have := HSB.out.2; omega⟩
              rw [← HR.out, HHK.out, wipeR_next HHE.out HNT.out (by rw [← HAT.out, ← HXZ.out]; exact HEN.out)]
            case measure => simp [intOf]; omega
      · have he : (e != 0) = true := by simp [he0]
        have HHE : Kp (hasE s1 ((begN s1.n gen + k : Nat) : Int) ≠ 0) := ⟨by rw [← HAT.out, ← HEE.out]; exact he0⟩
        clear he0
        obtain ⟨XB, hXB⟩ : ∃ XB, XB = w3.heap.size := ⟨_, rfl⟩
        have HXB := Kp.mk hXB
        clear hXB
        go_wp2_with (first
          | (refine wpList_alloc_row rfl 35 rfl _ _ infoz64 ?_; rw [← HXB.out]; refine wpl_world (w := w3.alloc (.cells (kv .u8 z64).toArray 35)) (fun w6 => Row w6 XB 35 .u8 z64 ∧ Below w3.heap.size w3 w6) ⟨Blk.newAt _ HXB.out, more (Below.refl _ _) _⟩ ?_; rintro W8 ⟨h1, h2⟩; have K1 := Kp.mk h1; have K2 := Kp.mk h2; clear h1 h2)
          | (refine wpList_store_row rfl 35 (.tmp 4) (.tmp 19) rfl XB (kv .u8 xz).toArray rfl rfl 35 _ K1.out (cells64 HXL.out) (by rw [kv_size, kv_size, HXL.out, z64_len]) (kv_all _ _) ?_; refine wpl_world (fun w6 => Below w3.heap.size w3 w6) (Below.row K2.out (by rw [HXB.out]; exact Nat.le_refl _) _) ?_; rintro W4 h2; have HT4 : Kp (SlStep g v v1 s1 w W4) := ⟨HT3.out.trans (SlStep.same HD3.out.is h2)⟩; clear h2 K1 K2))
        go_ret
        have HF : wipeR half s gen 0 = (s1, e) := by rw [← HR.out, HHK.out, wipeR_no HHE.out, ← HAT.out, ← HEE.out]
        exact ⟨v1, reti (by rw [HF]), by rw [HF]; exact HT4.out⟩
    · obtain rfl : k = half := by omega
      have HF : Kp (wipeR k s gen 0 = (s1, 0)) := ⟨by rw [← HR.out, Nat.sub_self]; rfl⟩
      go_wp2_with fail
      go_ret
      exact ⟨v1, reti (by rw [HF.out]), by rw [HF.out]; exact HT.out⟩
end Go.Proofs.Ytgikedbnnlckjaa
