/-
  frame.GetHello.
-/
import Derived.Test.YtgabjmmmiogfjaaDoorFhD
namespace Go.Proofs.YtgabjmmmiogfjaaDoor
open Go.RowKit

set_option maxRecDepth 100000 in
set_option maxHeartbeats 16000000 in
theorem ghello_any (M : Nat) (v : Value) (B : List Int) (w : World) (h : HoldsB w M v B) (hr : B.length ≤ 140737488351232) : Calls Tryd.prog 30 #[v] w (HelloPost B w) := by
  have HBB := Kp.mk h.bytes
  have H0 := Kp.mk h
  have HL := Kp.mk hr
  obtain ⟨va, vn, vc, rfl, -⟩ := h.slice
  obtain ⟨i0, hi, hz0, hz1, hz2⟩ := info_parts info98'
  obtain ⟨R, hR⟩ : ∃ R, R = w.heap.size := ⟨_, rfl⟩
  have HRe := Kp.mk hR
  clear h hr
  go_enter Tryd.func30, Tryd.ntmps30
  go_wp2_with fail
  rw [← hR]
  have K1 : Kp (Blk (w.alloc (HZ 71)) R (HZ 71)) := ⟨Blk.newAt _ hR⟩
  have K2 : Kp (Below R w (w.alloc (HZ 71))) := ⟨by rw [hR]; exact more (Below.refl _ _) _⟩
  have K3 : Kp (HoldsB (w.alloc (HZ 71)) M (.slice va vn vc) B) := ⟨H0.out.alloc _⟩
  clear hR H0
  generalize w.alloc (HZ 71) = w0 at *
  refine (takeI_any M _ B _ K3.out HL.out).mono ?_
  rintro r w1 ⟨I, rfl, hI, hi1, hb⟩
  have J1 := Kp.mk (K1.out.keep hb)
  have J2 : Kp (Below R w w1) := ⟨K2.out.trans (hb.mono (Nat.le_of_lt K1.out.lt))⟩
  have J3 := Kp.mk hi1
  have J4 : Kp (R < I) := ⟨Nat.lt_of_lt_of_le K1.out.lt hI⟩
  have R0 : Kp (Rel B 0 B 0) := ⟨⟨fun _ => rfl, fun h => absurd rfl h⟩⟩
  clear hI hi1 hb K1 K2 K3
  go_wp2_with fail
  refine (u8_any I I B 0 w1 J3.out).mono ?_
  rintro r w2 ⟨rfl, s1⟩
  obtain ⟨q1, q2, q3⟩ := R0.out.next 1
  rw [q1, show numOf (rawP B 0 0 1) = gHd B from rfl]
  rw [q2] at s1
  have E1 := Kp.mk s1.is
  have E2 := Kp.mk (s1.keep J1.out (by have := J4.out; omega))
  have E3 : Kp (Below R w w2) := ⟨by obtain ⟨_, o, ho⟩ := s1; exact J2.out.trans (ho.below (by have := J4.out; omega) (by have := J1.out.lt; omega))⟩
  have R1 := Kp.mk q3
  have hd0 := gHd_lt HBB.out
  obtain ⟨hd, hhd⟩ : ∃ hd, hd = gHd B := ⟨_, rfl⟩
  have HHD := Kp.mk hhd
  rw [← hhd] at hd0 ⊢
  have hwd : IntKind.u8.wrap hd = hd := by simp [IntKind.wrap, IntKind.bits, IntKind.signed]; omega
  have LI : Kp (I < w2.heap.size) := ⟨E1.out.lt⟩
  clear s1 q1 q2 q3 R0 J1 J2 J3 hhd hd0
  obtain ⟨H, hH⟩ : ∃ H, H = w2.heap.size := ⟨_, rfl⟩
  have HHe := Kp.mk hH
  clear hH
  go_wp2_with (refine wpList_store_row rfl 71 (.tmp 5) (.tmp 12) rfl w2.heap.size #[.int .u8 hd, .slice none 0 0] rfl rfl 71 _ (Blk.newAt _ rfl) info71s rfl (h_one _ _ _ _) ?_; rw [← HHe.out]; refine wpl_world (w := (w2.alloc (HZ 71)).setRow H #[.int .u8 hd, .slice none 0 0]) (fun W => GHSt w R I H hd (.slice none 0 0) [] (nextL B 0 1) (rawE B 0 0 1) W) ⟨(E1.out.keep (more (Below.refl _ _) _)).turn (Turn.ofRow (Blk.newAt _ HHe.out) _) (by have := LI.out; have := HHe.out; omega) (by have := LI.out; have := HHe.out; omega), (Turn.ofRow (Blk.newAt _ HHe.out) _).keep (E2.out.old _) (by have := LI.out; have := J4.out; have := HHe.out; omega), (Turn.ofRow (Blk.newAt _ HHe.out) _).blk, World.ownsRow_nil _ _ _ _, U32s.nil, (E3.out.alloc (by have := E2.out.lt; omega) _).trans ((Turn.ofRow (Blk.newAt _ HHe.out) _).below (by have := LI.out; have := J4.out; have := HHe.out; omega) (by have := E2.out.lt; simp; omega)), J4.out, by rw [HHe.out]; exact LI.out⟩ ?_; rintro W2 hst; have S1 := Kp.mk hst; clear hst)
  refine (fmany_any I _ B _ _ W2 S1.out.i R1.out HBB.out).mono ?_
  rintro r w3 ⟨rfl, l3, s3, r3⟩
  rw [show numOf (rawP B (rawA B 0 0 1) (rawE B 0 0 1) 1) = gN B from rfl, show rawE B (rawA B 0 0 1) (rawE B 0 0 1) 1 = gE2 B from rfl] at s3 r3
  rw [show numOf (rawP B (rawA B 0 0 1) (rawE B 0 0 1) 1) = gN B from rfl]
  have S3 := Kp.mk (S1.out.read s3)
  have R3 := Kp.mk r3
  have hk : (if 8 < gN B then 0 else gN B) = (gK B : Int) := by
    have := gN_lt HBB.out
    unfold gK
    split <;> omega
  rw [hk]
  have HK := Kp.mk (gK_le HBB.out)
  obtain ⟨k, hke⟩ : ∃ k, k = gK B := ⟨_, rfl⟩
  rw [← hke] at HK ⊢
  have HKE := Kp.mk hke
  have hk8 : k ≤ 8 := HK.out
  clear s3 r3 hk hke E1 E2 E3 R1 S1
  go_wp2_with fail
  go_loopw [15] (fun c wr => ∃ (i : Nat) (av : Option Addr) (nv cv : Nat) (l : List Int), i ≤ k ∧ c = .int .i64 i ∧ GHSt w R I H hd (.slice av nv cv) (hW B i) l (hS B i).2 wr ∧ Rel l (hS B i).2 B (hS B i).1) (fun c _ => k - (intOf c).toNat)
  case atStart => exact ⟨0, none, 0, 0, l3, by omega, rfl, S3.out, R3.out⟩
  case round =>
    obtain ⟨i, av, nv, cv, l, hi', rfl, hst, hrel⟩ := hrel
    have S0 := Kp.mk hst
    have R0 := Kp.mk hrel
    clear hst hrel
    by_cases hlt : i < k
    · obtain ⟨x, hxe⟩ : ∃ x, x = hX B i := ⟨_, rfl⟩
      have HX : Kp (0 ≤ x ∧ x ≤ 4294967295) := ⟨by rw [hxe]; exact hX_lt HBB.out i⟩
      have HXE := Kp.mk hxe
      have hwx : IntKind.u32.wrap x = x := by have := HX.out; simp [IntKind.wrap, IntKind.bits, IntKind.signed]; omega
      obtain ⟨us, hus⟩ : ∃ us, us = hW B i := ⟨_, rfl⟩
      have HUS := Kp.mk hus
      have HUL : Kp (us.length ≤ 8) := ⟨by rw [hus, hW_len]; omega⟩
      rw [← hus] at S0
      clear hxe hus
      go_wp2_with fail
      refine wp_region_any (by kernel_rfl) ?_
      change wpAny _ _ _ _ _ _ _ (World.drew _)
      refine wpAny_take (i := 0) (oi := { dst := some 17, op := Go.Op.fieldAddr 71 (Go.Operand.tmp 5) 1, type := 0, pos := "hello.go:32", after := #[], guard := none }) (v := .pointer (some ⟨H, 1, none⟩)) rfl (by kernel_rfl) (by kernel_rfl) (by kernel_rfl) (fun _ _ _ h => h) (Or.inl ⟨by rfl, fun w => by first | rfl | go_simp⟩) ?_
      simp only [Act.put, List.setIfInBounds_toArray, List.set_cons_zero, List.set_cons_succ]
      refine wpAny_take (i := 2) (oi := { dst := some 19, op := Go.Op.move (Go.Operand.tmp 4), type := 127, pos := "hello.go:32", after := #[], guard := none }) (v := .pointer (some ⟨I, 0, none⟩)) rfl (by kernel_rfl) (by kernel_rfl) (by kernel_rfl) (fun _ _ _ h => h) (Or.inl ⟨by rfl, fun w => by first | rfl | go_simp⟩) ?_
      simp only [Act.put, List.setIfInBounds_toArray, List.set_cons_zero, List.set_cons_succ]
      refine wpAny_ready (rs := [1, 3]) (by kernel_rfl) (by simp) ?_
      refine AllReady.cons (o := { dst := some 18, op := Go.Op.load 67 (Go.Operand.tmp 17), type := 67, pos := "hello.go:32", after := #[{ on := 0, ground := Go.Ground.data }], guard := none }) rfl (fun K hK => ?_) (AllReady.cons (o := { dst := some 20, op := Go.Op.call { callee := Go.Callee.value (Go.Operand.func 70), args := #[Go.Operand.tmp 19], argTypes := #[127] }, type := 23, pos := "hello.go:32", after := #[{ on := 2, ground := Go.Ground.data }], guard := none }) rfl (fun K hK => ?_) AllReady.nil)
      · have q2 : wr.cell? ⟨H, 1, none⟩ = some (.slice av nv cv) := S0.out.h.cell 1
        go_simp
        clear q2
        refine hK _ _ ?_
        clear hK K
        try simp only [Act.put, List.setIfInBounds_toArray, List.set_cons_zero, List.set_cons_succ]
        refine wpAny_ready (rs := [3]) (by kernel_rfl) (by simp) ?_
        refine AllReady.cons (o := { dst := some 20, op := Go.Op.call { callee := Go.Callee.value (Go.Operand.func 70), args := #[Go.Operand.tmp 19], argTypes := #[127] }, type := 23, pos := "hello.go:32", after := #[{ on := 2, ground := Go.Ground.data }], guard := none }) rfl (fun K hK => ?_) AllReady.nil
        go_simp
        refine (u32_any I I l (hS B i).2 _ S0.out.i.drew).mono ?_
        rintro r w1 ⟨rfl, s1⟩
        obtain ⟨q1, q2, q3⟩ := R0.out.next 4
        rw [q1, show numOf (rawP B (hS B i).1 (hS B i).2 4) = hX B i from rfl, ← HXE.out]
        rw [q2] at s1
        have S1 := Kp.mk ((S0.out.drew).read s1)
        have R1 := Kp.mk q3
        clear s1 q1 q2 q3
        refine hK _ _ ?_
        clear hK K
        try simp only [Act.put, List.setIfInBounds_toArray, List.set_cons_zero, List.set_cons_succ]
        refine wpAny_take (i := 4) (oi := { dst := some 21, op := Go.Op.convert 23 98 (Go.Operand.tmp 20), type := 98, pos := "hello.go:32", after := #[{ on := 3, ground := Go.Ground.data }], guard := none }) (v := .int .u32 x) rfl (by kernel_rfl) (by kernel_rfl) (by kernel_rfl) (fun _ _ _ h => h) (Or.inl ⟨by rfl, fun w => by go_simp⟩) ?_
        simp only [Act.put, List.setIfInBounds_toArray, List.set_cons_zero, List.set_cons_succ]
        refine wpAny_ready (rs := [5]) (by kernel_rfl) (by simp) ?_
        refine AllReady.cons (o := { dst := some 22, op := Go.Op.buildSlice 67 1 #[(0, Go.Operand.tmp 21)], type := 67, pos := "hello.go:32", after := #[{ on := 4, ground := Go.Ground.data }], guard := none }) rfl (fun K hK => ?_) AllReady.nil
        go_simp
        refine hK _ _ ?_
        clear hK K
        try simp only [Act.put, List.setIfInBounds_toArray, List.set_cons_zero, List.set_cons_succ]
        refine wpAny_ready (rs := [6]) (by kernel_rfl) (by simp) ?_
        refine AllReady.cons (o := { dst := some 23, op := Go.Op.call { callee := Go.Callee.builtin Go.Builtin.append, args := #[Go.Operand.tmp 18, Go.Operand.tmp 22], argTypes := #[67, 67] }, type := 67, pos := "hello.go:32", after := #[{ on := 1, ground := Go.Ground.data }, { on := 5, ground := Go.Ground.data }, { on := 3, ground := Go.Ground.chain }], guard := none }) rfl (fun K hK => ?_) AllReady.nil
        refine step_append_lies _ rfl (.tmp 18) (.tmp 22) 67 rfl (H + 1) 98 i0 (.int .u32 0) 1 4 Tryd.underlying67 hi hz0 hz1 hz2 rfl (by decide) (.slice av nv cv) us.length (uv us) rfl (ownsRow_below S1.out.o (more (Below.refl _ _) _)) ⟨w1.heap.size, 0, none⟩ 1 1 [.int .u32 x] rfl rfl ?d0 ?d1 (by decide) ?d3 ?d4 ?d5 (w1.heap.size + 1) ?d6 ?_
        case d0 => exact World.news_of_block (Blk.new w1 (.cells #[.int .u32 x] 98))
        case d1 => intro u hu; simp only [List.mem_singleton] at hu; rw [hu]; rfl
        case d3 => have := HUL.out; unfold maxLen; omega
        case d4 => have := HUL.out; omega
        case d5 => have := S1.out.h.lt; simp; omega
        case d6 => simp
        intro g capN w3 ho hg hv hlt
        have H3 : Kp (Blk w3 H (.cells #[.int .u8 hd, .slice av nv cv] 71)) := ⟨S1.out.h.upto (below_row_grown (B := H + 1) ((more (Below.refl _ _) _).mono (by have := S1.out.h.lt; omega)) (by have := S1.out.h.lt; simp; omega) (ownsRow_below S1.out.o (more (Below.refl _ _) _)) hg) (by omega)⟩
        have S3 := Kp.mk (S1.out.app HX.out ho hg)
        clear ho hg hv hlt S1
        refine hK _ _ ?_
        clear hK K
        try simp only [Act.put, List.setIfInBounds_toArray, List.set_cons_zero, List.set_cons_succ]
        refine wpAny_take (i := 7) (oi := { dst := some 24, op := Go.Op.fieldAddr 71 (Go.Operand.tmp 5) 1, type := 0, pos := "hello.go:32", after := #[{ on := 0, ground := Go.Ground.phase }, { on := 1, ground := Go.Ground.phase }, { on := 2, ground := Go.Ground.phase }, { on := 3, ground := Go.Ground.phase }, { on := 4, ground := Go.Ground.phase }, { on := 5, ground := Go.Ground.phase }, { on := 6, ground := Go.Ground.phase }], guard := none }) (v := .pointer (some ⟨H, 1, none⟩)) rfl (by kernel_rfl) (by kernel_rfl) (by kernel_rfl) (fun _ _ _ h => h) (Or.inl ⟨by rfl, fun w => by first | rfl | go_simp⟩) ?_
        simp only [Act.put, List.setIfInBounds_toArray, List.set_cons_zero, List.set_cons_succ]
        refine wpAny_ready (rs := [8]) (by kernel_rfl) (by simp) ?_
        refine AllReady.cons (o := { dst := none, op := Go.Op.store 67 (Go.Operand.tmp 24) (Go.Operand.tmp 23), type := 0, pos := "hello.go:32", after := #[{ on := 7, ground := Go.Ground.data }, { on := 6, ground := Go.Ground.data }, { on := 6, ground := Go.Ground.chain }, { on := 0, ground := Go.Ground.phase }, { on := 1, ground := Go.Ground.phase }, { on := 2, ground := Go.Ground.phase }, { on := 3, ground := Go.Ground.phase }, { on := 4, ground := Go.Ground.phase }, { on := 5, ground := Go.Ground.phase }, { on := 6, ground := Go.Ground.phase }], guard := none }) rfl (fun K hK => ?_) AllReady.nil
        have q2 := H3.out.cell 1
        have q3 := H3.out.frozen 1
        go_simp
        clear q2 q3
        refine hK _ _ ?_
        clear hK K
        try simp only [Act.put, List.setIfInBounds_toArray, List.set_cons_zero, List.set_cons_succ]
        refine wpAny_done (by kernel_rfl) ?_ _
        have HW : Kp (hW B i ++ [x] = hW B (i + 1)) := ⟨by rw [hW_succ, HXE.out]⟩
        have S4 : Kp (GHSt w R I H hd (.slice (some ⟨g, 0, none⟩) (us.length + 1) capN) (hW B (i + 1)) (nextL l (hS B i).2 4) (hS B (i + 1)).2 (w3.setCell ⟨H, 1, none⟩ (.slice (some ⟨g, 0, none⟩) (us.length + 1) capN))) := ⟨by have := S3.out; rw [HUS.out, HW.out] at this; rw [HUS.out]; exact this⟩
        clear S3 H3
        go_wp2_with fail
        exact ⟨⟨i + 1, _, _, _, _, by omega, by go_num, S4.out, R1.out⟩, by simp [intOf]; omega⟩
      · go_simp
        refine (u32_any I I l (hS B i).2 _ S0.out.i.drew).mono ?_
        rintro r w1 ⟨rfl, s1⟩
        obtain ⟨q1, q2, q3⟩ := R0.out.next 4
        rw [q1, show numOf (rawP B (hS B i).1 (hS B i).2 4) = hX B i from rfl, ← HXE.out]
        rw [q2] at s1
        have S1 := Kp.mk ((S0.out.drew).read s1)
        have R1 := Kp.mk q3
        clear s1 q1 q2 q3
        refine hK _ _ ?_
        clear hK K
        try simp only [Act.put, List.setIfInBounds_toArray, List.set_cons_zero, List.set_cons_succ]
        refine wpAny_take (i := 4) (oi := { dst := some 21, op := Go.Op.convert 23 98 (Go.Operand.tmp 20), type := 98, pos := "hello.go:32", after := #[{ on := 3, ground := Go.Ground.data }], guard := none }) (v := .int .u32 x) rfl (by kernel_rfl) (by kernel_rfl) (by kernel_rfl) (fun _ _ _ h => h) (Or.inl ⟨by rfl, fun w => by go_simp⟩) ?_
        simp only [Act.put, List.setIfInBounds_toArray, List.set_cons_zero, List.set_cons_succ]
        refine wpAny_ready (rs := [1, 5]) (by kernel_rfl) (by simp) ?_
        refine AllReady.cons (o := { dst := some 18, op := Go.Op.load 67 (Go.Operand.tmp 17), type := 67, pos := "hello.go:32", after := #[{ on := 0, ground := Go.Ground.data }], guard := none }) rfl (fun K hK => ?_) (AllReady.cons (o := { dst := some 22, op := Go.Op.buildSlice 67 1 #[(0, Go.Operand.tmp 21)], type := 67, pos := "hello.go:32", after := #[{ on := 4, ground := Go.Ground.data }], guard := none }) rfl (fun K hK => ?_) AllReady.nil)
        · have q2 : w1.cell? ⟨H, 1, none⟩ = some (.slice av nv cv) := S1.out.h.cell 1
          go_simp
          clear q2
          refine hK _ _ ?_
          clear hK K
          try simp only [Act.put, List.setIfInBounds_toArray, List.set_cons_zero, List.set_cons_succ]
          refine wpAny_ready (rs := [5]) (by kernel_rfl) (by simp) ?_
          refine AllReady.cons (o := { dst := some 22, op := Go.Op.buildSlice 67 1 #[(0, Go.Operand.tmp 21)], type := 67, pos := "hello.go:32", after := #[{ on := 4, ground := Go.Ground.data }], guard := none }) rfl (fun K hK => ?_) AllReady.nil
          go_simp
          refine hK _ _ ?_
          clear hK K
          try simp only [Act.put, List.setIfInBounds_toArray, List.set_cons_zero, List.set_cons_succ]
          refine wpAny_ready (rs := [6]) (by kernel_rfl) (by simp) ?_
          refine AllReady.cons (o := { dst := some 23, op := Go.Op.call { callee := Go.Callee.builtin Go.Builtin.append, args := #[Go.Operand.tmp 18, Go.Operand.tmp 22], argTypes := #[67, 67] }, type := 67, pos := "hello.go:32", after := #[{ on := 1, ground := Go.Ground.data }, { on := 5, ground := Go.Ground.data }, { on := 3, ground := Go.Ground.chain }], guard := none }) rfl (fun K hK => ?_) AllReady.nil
          refine step_append_lies _ rfl (.tmp 18) (.tmp 22) 67 rfl (H + 1) 98 i0 (.int .u32 0) 1 4 Tryd.underlying67 hi hz0 hz1 hz2 rfl (by decide) (.slice av nv cv) us.length (uv us) rfl (ownsRow_below S1.out.o (more (Below.refl _ _) _)) ⟨w1.heap.size, 0, none⟩ 1 1 [.int .u32 x] rfl rfl ?d0 ?d1 (by decide) ?d3 ?d4 ?d5 (w1.heap.size + 1) ?d6 ?_
          case d0 => exact World.news_of_block (Blk.new w1 (.cells #[.int .u32 x] 98))
          case d1 => intro u hu; simp only [List.mem_singleton] at hu; rw [hu]; rfl
          case d3 => have := HUL.out; unfold maxLen; omega
          case d4 => have := HUL.out; omega
          case d5 => have := S1.out.h.lt; simp; omega
          case d6 => simp
          intro g capN w3 ho hg hv hlt
          have H3 : Kp (Blk w3 H (.cells #[.int .u8 hd, .slice av nv cv] 71)) := ⟨S1.out.h.upto (below_row_grown (B := H + 1) ((more (Below.refl _ _) _).mono (by have := S1.out.h.lt; omega)) (by have := S1.out.h.lt; simp; omega) (ownsRow_below S1.out.o (more (Below.refl _ _) _)) hg) (by omega)⟩
          have S3 := Kp.mk (S1.out.app HX.out ho hg)
          clear ho hg hv hlt S1
          refine hK _ _ ?_
          clear hK K
          try simp only [Act.put, List.setIfInBounds_toArray, List.set_cons_zero, List.set_cons_succ]
          refine wpAny_take (i := 7) (oi := { dst := some 24, op := Go.Op.fieldAddr 71 (Go.Operand.tmp 5) 1, type := 0, pos := "hello.go:32", after := #[{ on := 0, ground := Go.Ground.phase }, { on := 1, ground := Go.Ground.phase }, { on := 2, ground := Go.Ground.phase }, { on := 3, ground := Go.Ground.phase }, { on := 4, ground := Go.Ground.phase }, { on := 5, ground := Go.Ground.phase }, { on := 6, ground := Go.Ground.phase }], guard := none }) (v := .pointer (some ⟨H, 1, none⟩)) rfl (by kernel_rfl) (by kernel_rfl) (by kernel_rfl) (fun _ _ _ h => h) (Or.inl ⟨by rfl, fun w => by first | rfl | go_simp⟩) ?_
          simp only [Act.put, List.setIfInBounds_toArray, List.set_cons_zero, List.set_cons_succ]
          refine wpAny_ready (rs := [8]) (by kernel_rfl) (by simp) ?_
          refine AllReady.cons (o := { dst := none, op := Go.Op.store 67 (Go.Operand.tmp 24) (Go.Operand.tmp 23), type := 0, pos := "hello.go:32", after := #[{ on := 7, ground := Go.Ground.data }, { on := 6, ground := Go.Ground.data }, { on := 6, ground := Go.Ground.chain }, { on := 0, ground := Go.Ground.phase }, { on := 1, ground := Go.Ground.phase }, { on := 2, ground := Go.Ground.phase }, { on := 3, ground := Go.Ground.phase }, { on := 4, ground := Go.Ground.phase }, { on := 5, ground := Go.Ground.phase }, { on := 6, ground := Go.Ground.phase }], guard := none }) rfl (fun K hK => ?_) AllReady.nil
          have q2 := H3.out.cell 1
          have q3 := H3.out.frozen 1
          go_simp
          clear q2 q3
          refine hK _ _ ?_
          clear hK K
          try simp only [Act.put, List.setIfInBounds_toArray, List.set_cons_zero, List.set_cons_succ]
          refine wpAny_done (by kernel_rfl) ?_ _
          have HW : Kp (hW B i ++ [x] = hW B (i + 1)) := ⟨by rw [hW_succ, HXE.out]⟩
          have S4 : Kp (GHSt w R I H hd (.slice (some ⟨g, 0, none⟩) (us.length + 1) capN) (hW B (i + 1)) (nextL l (hS B i).2 4) (hS B (i + 1)).2 (w3.setCell ⟨H, 1, none⟩ (.slice (some ⟨g, 0, none⟩) (us.length + 1) capN))) := ⟨by have := S3.out; rw [HUS.out, HW.out] at this; rw [HUS.out]; exact this⟩
          clear S3 H3
          go_wp2_with fail
          exact ⟨⟨i + 1, _, _, _, _, by omega, by go_num, S4.out, R1.out⟩, by simp [intOf]; omega⟩
        · go_simp
          refine hK _ _ ?_
          clear hK K
          try simp only [Act.put, List.setIfInBounds_toArray, List.set_cons_zero, List.set_cons_succ]
          refine wpAny_ready (rs := [1]) (by kernel_rfl) (by simp) ?_
          refine AllReady.cons (o := { dst := some 18, op := Go.Op.load 67 (Go.Operand.tmp 17), type := 67, pos := "hello.go:32", after := #[{ on := 0, ground := Go.Ground.data }], guard := none }) rfl (fun K hK => ?_) AllReady.nil
          have q2 : (w1.alloc (.cells #[.int .u32 x] 98)).cell? ⟨H, 1, none⟩ = some (.slice av nv cv) := (S1.out.h.old _).cell 1
          go_simp
          clear q2
          refine hK _ _ ?_
          clear hK K
          try simp only [Act.put, List.setIfInBounds_toArray, List.set_cons_zero, List.set_cons_succ]
          refine wpAny_ready (rs := [6]) (by kernel_rfl) (by simp) ?_
          refine AllReady.cons (o := { dst := some 23, op := Go.Op.call { callee := Go.Callee.builtin Go.Builtin.append, args := #[Go.Operand.tmp 18, Go.Operand.tmp 22], argTypes := #[67, 67] }, type := 67, pos := "hello.go:32", after := #[{ on := 1, ground := Go.Ground.data }, { on := 5, ground := Go.Ground.data }, { on := 3, ground := Go.Ground.chain }], guard := none }) rfl (fun K hK => ?_) AllReady.nil
          refine step_append_lies _ rfl (.tmp 18) (.tmp 22) 67 rfl (H + 1) 98 i0 (.int .u32 0) 1 4 Tryd.underlying67 hi hz0 hz1 hz2 rfl (by decide) (.slice av nv cv) us.length (uv us) rfl (ownsRow_below S1.out.o (more (Below.refl _ _) _)) ⟨w1.heap.size, 0, none⟩ 1 1 [.int .u32 x] rfl rfl ?d0 ?d1 (by decide) ?d3 ?d4 ?d5 (w1.heap.size + 1) ?d6 ?_
          case d0 => exact World.news_of_block (Blk.new w1 (.cells #[.int .u32 x] 98))
          case d1 => intro u hu; simp only [List.mem_singleton] at hu; rw [hu]; rfl
          case d3 => have := HUL.out; unfold maxLen; omega
          case d4 => have := HUL.out; omega
          case d5 => have := S1.out.h.lt; simp; omega
          case d6 => simp
          intro g capN w3 ho hg hv hlt
          have H3 : Kp (Blk w3 H (.cells #[.int .u8 hd, .slice av nv cv] 71)) := ⟨S1.out.h.upto (below_row_grown (B := H + 1) ((more (Below.refl _ _) _).mono (by have := S1.out.h.lt; omega)) (by have := S1.out.h.lt; simp; omega) (ownsRow_below S1.out.o (more (Below.refl _ _) _)) hg) (by omega)⟩
          have S3 := Kp.mk (S1.out.app HX.out ho hg)
          clear ho hg hv hlt S1
          refine hK _ _ ?_
          clear hK K
          try simp only [Act.put, List.setIfInBounds_toArray, List.set_cons_zero, List.set_cons_succ]
          refine wpAny_take (i := 7) (oi := { dst := some 24, op := Go.Op.fieldAddr 71 (Go.Operand.tmp 5) 1, type := 0, pos := "hello.go:32", after := #[{ on := 0, ground := Go.Ground.phase }, { on := 1, ground := Go.Ground.phase }, { on := 2, ground := Go.Ground.phase }, { on := 3, ground := Go.Ground.phase }, { on := 4, ground := Go.Ground.phase }, { on := 5, ground := Go.Ground.phase }, { on := 6, ground := Go.Ground.phase }], guard := none }) (v := .pointer (some ⟨H, 1, none⟩)) rfl (by kernel_rfl) (by kernel_rfl) (by kernel_rfl) (fun _ _ _ h => h) (Or.inl ⟨by rfl, fun w => by first | rfl | go_simp⟩) ?_
          simp only [Act.put, List.setIfInBounds_toArray, List.set_cons_zero, List.set_cons_succ]
          refine wpAny_ready (rs := [8]) (by kernel_rfl) (by simp) ?_
          refine AllReady.cons (o := { dst := none, op := Go.Op.store 67 (Go.Operand.tmp 24) (Go.Operand.tmp 23), type := 0, pos := "hello.go:32", after := #[{ on := 7, ground := Go.Ground.data }, { on := 6, ground := Go.Ground.data }, { on := 6, ground := Go.Ground.chain }, { on := 0, ground := Go.Ground.phase }, { on := 1, ground := Go.Ground.phase }, { on := 2, ground := Go.Ground.phase }, { on := 3, ground := Go.Ground.phase }, { on := 4, ground := Go.Ground.phase }, { on := 5, ground := Go.Ground.phase }, { on := 6, ground := Go.Ground.phase }], guard := none }) rfl (fun K hK => ?_) AllReady.nil
          have q2 := H3.out.cell 1
          have q3 := H3.out.frozen 1
          go_simp
          clear q2 q3
          refine hK _ _ ?_
          clear hK K
          try simp only [Act.put, List.setIfInBounds_toArray, List.set_cons_zero, List.set_cons_succ]
          refine wpAny_done (by kernel_rfl) ?_ _
          have HW : Kp (hW B i ++ [x] = hW B (i + 1)) := ⟨by rw [hW_succ, HXE.out]⟩
          have S4 : Kp (GHSt w R I H hd (.slice (some ⟨g, 0, none⟩) (us.length + 1) capN) (hW B (i + 1)) (nextL l (hS B i).2 4) (hS B (i + 1)).2 (w3.setCell ⟨H, 1, none⟩ (.slice (some ⟨g, 0, none⟩) (us.length + 1) capN))) := ⟨by have := S3.out; rw [HUS.out, HW.out] at this; rw [HUS.out]; exact this⟩
          clear S3 H3
          go_wp2_with fail
          exact ⟨⟨i + 1, _, _, _, _, by omega, by go_num, S4.out, R1.out⟩, by simp [intOf]; omega⟩
    · obtain rfl : i = k := by omega
      have HWK : Kp (hW B i = hW B (gK B) ∧ hS B i = hS B (gK B)) := ⟨by rw [HKE.out]; exact ⟨rfl, rfl⟩⟩
      go_wp2_with fail
      refine (endI_any I I l _ wr S0.out.i).mono ?_
      rintro r w5 ⟨rfl, l5, s5⟩
      rw [end_is R0.out, HWK.out.2, show (if 0 < rleft B (hS B (gK B)).1 (hS B (gK B)).2 then 10 else (hS B (gK B)).2) = gEnd B from rfl]
      have S5 := Kp.mk (S0.out.read s5)
      clear s5 S0 R0
      rw [HWK.out.1] at S5
      by_cases he : gEnd B = 0
      · have HGE := Kp.mk he
        rw [he]
        clear he
        go_wp2_with (first
          | (refine wpList_load_row rfl 71 (.tmp 5) rfl H rfl 71 #[.int .u8 hd, .slice av nv cv] (0, 0) _ S5.out.h Tryd.underlying71 rfl info71s ?_)
          | (refine wpList_store_row rfl 71 (.tmp 2) (.tmp 32) rfl R #[.int .u8 hd, .slice av nv cv] rfl rfl 71 _ S5.out.r info71s rfl (h_one _ _ _ _) ?_; refine wpl_world (w := w5.setRow R #[.int .u8 hd, .slice av nv cv]) (fun W => Blk W R (.cells #[.int .u8 hd, .slice av nv cv] 71) ∧ HoldsU W W.heap.size (.slice av nv cv) (hW B (gK B)) ∧ Below R w W) ⟨(Turn.ofRow S5.out.r _).blk, HoldsU.ofRow S5.out.u (ownsRow_turn S5.out.o (Turn.ofRow S5.out.r _) (by have := S5.out.ri; have := S5.out.ih; omega)), S5.out.below.trans ((Turn.ofRow S5.out.r _).below (Nat.le_refl _) (by have := S5.out.r.lt; omega))⟩ ?_; rintro W6 h6; have S6 := Kp.mk h6; clear h6))
        obtain rfl : nv = (hW B (gK B)).length := by
          obtain ⟨a9, n9, c9, e9, e10⟩ := S6.out.2.1.slice
          simp only [Value.slice.injEq] at e9
          omega
        exact bodyPost_ret (results_row_tmp' rfl _ _ R 71 _ _ _ (.int .i64 0) rfl rfl S6.out.1 Tryd.underlying71 rfl info71s) rfl ⟨av, _, cv, by unfold gX; rw [if_pos HGE.out, HGE.out, ← HHD.out], by unfold gW; rw [if_pos HGE.out]; exact S6.out.2.1, by rw [← HRe.out]; exact S6.out.2.2⟩
      · have HGE := Kp.mk he
        have hne : (gEnd B != 0) = true := by simpa using he
        obtain ⟨E, hE⟩ : ∃ E, E = gEnd B := ⟨_, rfl⟩
        have HE := Kp.mk hE
        rw [← hE] at hne ⊢
        clear he hE
        go_wp2_with (refine wpList_store_row rfl 71 (.tmp 2) (.tmp 30) rfl R #[.int .u8 0, .slice none 0 0] rfl rfl 71 _ S5.out.r info71s rfl (h_one _ _ _ _) ?_; refine wpl_world (w := w5.setRow R #[.int .u8 0, .slice none 0 0]) (fun W => Blk W R (HZ 71) ∧ Below R w W) ⟨(Turn.ofRow S5.out.r _).blk, S5.out.below.trans ((Turn.ofRow S5.out.r _).below (Nat.le_refl _) (by have := S5.out.r.lt; omega))⟩ ?_; rintro W6 h6; have S6 := Kp.mk h6; clear h6)
        exact bodyPost_ret (results_row_tmp' rfl _ _ R 71 _ _ _ (.int .i64 E) rfl rfl S6.out.1 Tryd.underlying71 rfl info71s) rfl ⟨none, 0, 0, by unfold gX; rw [if_neg HGE.out, HE.out], by unfold gW; rw [if_neg HGE.out]; exact HoldsU.nil _ _, by rw [← HRe.out]; exact S6.out.2⟩
end Go.Proofs.YtgabjmmmiogfjaaDoor
