/-
  The law FrameBack, walked.
-/
import Derived.Test.YtgabjmmmiogfjaaDoorFrX
import Derived.Test.YtgabjmmmiogfjaaDoorFrY
namespace Go.Proofs.YtgabjmmmiogfjaaDoor
open Go.RowKit

/-- On the way: the key's row, the frame in its cell, its text, the bytes, the constants. -/
structure BSt (w : World) (A : Nat) (key B tp : List Int) (p : FV) (v : Value) (W : World) : Prop where
  o : OSt w A key B v W
  b : Blk W (A + 1) (p.box 26)
  t : HoldsB W A (.slice p.a p.n p.c) tp
theorem BSt.more {w W W' : World} {A : Nat} {key B tp : List Int} {p : FV} {v : Value} (h : BSt w A key B tp p v W) (hb : Below W.heap.size W W') : BSt w A key B tp p v W' := ⟨h.o.more hb, h.b.keep hb, h.t.keep hb⟩
theorem BSt.turn {w W W' : World} {A b : Nat} {key B tp : List Int} {p : FV} {v : Value} {o : Obj} (h : BSt w A key B tp p v W) (hT : Turn b o W W') (hb : A + 1 < b) : BSt w A key B tp p v W' := ⟨h.o.turn hT (by omega), hT.keep h.b (by omega), h.t.turn hT (by omega)⟩
set_option maxRecDepth 100000 in
set_option maxHeartbeats 16000000 in
theorem back_core (key B tp : List Int) (v : Value) (p : FV) (w : World) (hk : KonIs w) (hkey : key.length = 32 ∧ Bytes key) (hv : HoldsB w w.heap.size v B) (h : HoldsB w w.heap.size (.slice p.a p.n p.c) tp) (hid : BigP p) (hl : tp.length ≤ 140737488351232) (E O g1 g2 g3 g4 g5 : Int) (X Y : List Int) (hE : E = sealE p) (hX : X = sealX key p tp)
    (C3 : Kp (E = 0 → ∀ M v w, KonIs w → HoldsB w M v X → M ≤ w.heap.size → Calls Tryd.prog 16 #[dgV key, v] w (fun r w' => ∃ a n c, r = .returned (.tuple #[.agg #[.int .i64 p.fr, .int .i64 p.to, .int .u64 p.bo, .int .u64 p.co, .int .i64 p.ki, .slice a n c], .int .i64 0]) ∧ HoldsB w' w'.heap.size (.slice a n c) tp ∧ Below w.heap.size w w')))
    (C4 : Kp (∀ M v w, KonIs w → HoldsB w M v B → M ≤ w.heap.size → Calls Tryd.prog 16 #[dgV key, v] w (fun r w' => ∃ a n c, r = .returned (.tuple #[.agg #[.int .i64 g1, .int .i64 g2, .int .u64 g3, .int .u64 g4, .int .i64 g5, .slice a n c], .int .i64 O]) ∧ HoldsB w' w'.heap.size (.slice a n c) Y ∧ Below w.heap.size w w')))
    (C5 : Kp (O = 0 → ∀ a n c w, KonIs w → HoldsB w w.heap.size (.slice a n c) Y → Calls Tryd.prog 8 #[dgV key, .agg #[.int .i64 g1, .int .i64 g2, .int .u64 g3, .int .u64 g4, .int .i64 g5, .slice a n c]] w (fun r w' => ∃ a n c, r = .returned (.tuple #[.slice a n c, .int .i64 0]) ∧ HoldsB w' w'.heap.size (.slice a n c) B ∧ Below w.heap.size w w'))) :
    Calls Tryd.prog 5 #[dgV key, p.v, v] w fun r w' => r = .returned (.bool true) ∧ Below w.heap.size w w' := by
  have hC := fun (w : World) => box_row (t := 22) (cs := kv .u8 key) (cells22 hkey.1) w
  obtain ⟨A, hA⟩ : ∃ A, A = w.heap.size := ⟨_, rfl⟩
  have HA := Kp.mk hA
  have HKEY := Kp.mk hkey
  have H := Kp.mk h
  have HV := Kp.mk hv
  have HID := Kp.mk hid
  have HL := Kp.mk hl
  have HKON := Kp.mk hk
  have HE := Kp.mk hE
  have HX := Kp.mk hX
  obtain ⟨va, vn, vc, rfl, -⟩ := hv.slice
  clear hk hkey h hid hl hA hE hX hv
  go_enter Tryd.func5, Tryd.ntmps5
  go_wp2_with (refine wpList_box_eq rfl 22 (.tmp 0) rfl _ rfl _ _ (hC _) ?_; rw [← HA.out]; refine wpl_world (fun w2 => Row w2 A 22 .u8 key ∧ Below A w w2 ∧ A + 1 = w2.heap.size ∧ HoldsB w2 A (.slice p.a p.n p.c) tp ∧ KonIs w2 ∧ HoldsB w2 A (.slice va vn vc) B) ⟨Blk.newAt _ HA.out, by rw [HA.out]; exact more (Below.refl _ _) _, by simp [HA.out], by rw [HA.out]; exact H.out.alloc _, HKON.out.keep (more (Below.refl _ _) _), by rw [HA.out]; exact HV.out.alloc _⟩ ?_; rintro W1 ⟨h0, h1, h2, h3, h4, h5⟩; have K0 := Kp.mk h0; have K1 := Kp.mk h1; have K2 := Kp.mk h2; have K3 := Kp.mk h3; have K4 := Kp.mk h4; have K5 := Kp.mk h5; clear h0 h1 h2 h3 h4 h5)
  clear hC
  rw [← K2.out]
  have HK1 : Kp (Row (W1.alloc (p.box 26)) A 22 .u8 key) := ⟨K0.out.alloc _⟩
  have HP1 : Kp (Blk (W1.alloc (p.box 26)) (A + 1) (p.box 26)) := ⟨Blk.newAt _ K2.out⟩
  have HT1 : Kp (HoldsB (W1.alloc (p.box 26)) A (.slice p.a p.n p.c) tp) := ⟨K3.out.alloc _⟩
  have HV1 : Kp (HoldsB (W1.alloc (p.box 26)) A (.slice va vn vc) B) := ⟨K5.out.alloc _⟩
  have HN1 : Kp (KonIs (W1.alloc (p.box 26))) := ⟨K4.out.keep (more (Below.refl _ _) _)⟩
  have HB1 : Kp (Below A w (W1.alloc (p.box 26))) := ⟨K1.out.alloc (by have := K2.out; omega) _⟩
  clear K0 K1 K2 K3 K4 K5
  generalize W1.alloc (p.box 26) = W2 at *
  refine wp_region_predQ (fun w' => Row w' A 22 .u8 key ∧ Blk w' (A + 1) (p.box 26) ∧ HoldsB w' A (.slice p.a p.n p.c) tp ∧ HoldsB w' A (.slice va vn vc) B ∧ KonIs w' ∧ Below A w w') [0, 1, 2, 3, 4, 5, 6] [6] [7, 8]
    (fun ι w' v => match ι with
      | 0 => v = dgV key
      | 1 => v = p.v
      | 6 => v = .int .i64 E
      | 2 => ∃ a c, v = .agg #[.int .i64 p.fr, .int .i64 p.to, .int .u64 p.bo, .int .u64 p.co, .int .i64 p.ki, .slice a p.n c] ∧ HoldsB w' w'.heap.size (.slice a p.n c) tp
      | 3 => ∃ a n c, v = .tuple #[.slice a n c, .int .i64 E] ∧ HoldsB w' w'.heap.size (.slice a n c) X
      | 4 => ∃ a n c, v = .tuple #[.slice a n c, .int .i64 E] ∧ HoldsB w' w'.heap.size (.slice a n c) X
      | 5 => ∃ a n c, v = .slice a n c ∧ HoldsB w' w'.heap.size (.slice a n c) X
      | _ => v = .bool true)
    [[], [], [(1, some 17)], [(0, some 16), (2, some 18)], [(3, some 19)], [(4, some 15)], [(4, some 15)]]
    [[(4, some 15)]]
    [(0, some 16), (1, some 17), (2, some 18), (3, some 19), (4, some 15), (5, some 20), (6, some 21)]
    (by kernel_rfl) (by kernel_rfl) (by kernel_rfl) (by kernel_rfl) (by kernel_rfl) (by kernel_rfl) (by kernel_rfl) (by decide) (by decide) (fun w1 w2 h hb => ⟨h.1.keep hb, h.2.1.keep hb, h.2.2.1.keep hb, h.2.2.2.1.keep hb, h.2.2.2.2.1.keep hb, h.2.2.2.2.2.trans (hb.mono (Nat.le_of_lt h.1.lt))⟩) (fun c a w d v h => by cases d <;> exact h) ?_ ⟨HK1.out.keep (Below.refl _ _).drew, HP1.out.keep (Below.refl _ _).drew, HT1.out.keep (Below.refl _ _).drew, HV1.out.keep (Below.refl _ _).drew, HN1.out.keep (Below.refl _ _).drew, HB1.out.drew⟩ ?_ ?_ ?_
  · intro ι w1 w2 v h hb
    by_cases h2 : ι = 2
    · subst h2
      exact (by obtain ⟨a, c, e, hg⟩ := h; exact ⟨a, c, e, hg.grow hb⟩)
    by_cases h3 : ι = 3
    · subst h3
      exact (by obtain ⟨a, n, c, e, hg⟩ := h; exact ⟨a, n, c, e, hg.grow hb⟩)
    by_cases h4 : ι = 4
    · subst h4
      exact (by obtain ⟨a, n, c, e, hg⟩ := h; exact ⟨a, n, c, e, hg.grow hb⟩)
    by_cases h5 : ι = 5
    · subst h5
      exact (by obtain ⟨a, n, c, e, hg⟩ := h; exact ⟨a, n, c, e, hg.grow hb⟩)
    match ι, h2, h3, h4, h5, h with
    | 0, _, _, _, _, h => exact h
    | 1, _, _, _, _, h => exact h
    | 2, g, _, _, _, h => exact absurd rfl g
    | 3, _, g, _, _, h => exact absurd rfl g
    | 4, _, _, g, _, h => exact absurd rfl g
    | 5, _, _, _, g, h => exact absurd rfl g
    | 6, _, _, _, _, h => exact h
    | _ + 7, _, _, _, _, h => exact h
  · refine ⟨fun γ wx hS h => ?_, fun γ wx hS h => ?_, fun γ wx hS h => ?_, fun γ wx hS h => ?_, fun γ wx hS h => ?_, fun γ wx hS h => ?_, fun γ wx hS h => ?_, trivial⟩
    · refine ⟨_, rfl, ?_⟩
      refine predOp_val (v := dgV key) ?_ ?_ ?_
      · kernel_rfl
      · exact exec_load_row (x := .tmp 3) (g := A) (t := 22) (cs := (kv .u8 key).toArray) (fr := (0, 0)) rfl (by simp only [putE, Act.put, List.setIfInBounds_toArray, List.set_cons_zero, List.set_cons_succ]; rfl) hS.1 Tryd.underlying22 rfl (cells22 HKEY.out.1)
      · rfl
    · refine ⟨_, rfl, ?_⟩
      refine predOp_val (v := p.v) ?_ ?_ ?_
      · kernel_rfl
      · exact exec_load_row (x := .tmp 4) (g := A + 1) (t := 26) (cs := #[.int .i64 p.fr, .int .i64 p.to, .int .u64 p.bo, .int .u64 p.co, .int .i64 p.ki, .slice p.a p.n p.c]) (fr := (0, 0)) rfl (by simp only [putE, Act.put, List.setIfInBounds_toArray, List.set_cons_zero, List.set_cons_succ]; rfl) hS.2.1 Tryd.underlying26 rfl info26s
      · rfl
    · have h1 := h
      have e1 : γ 1 = p.v := h1
      refine ⟨_, rfl, Or.inl ⟨rfl, predRun_call (f := 9) (args := #[p.v]) (by simp only [putE, e1]; go_simp) ?_⟩⟩
      exact (to_any p tp wx (hS.2.2.1.mono (Nat.le_of_lt hS.1.lt)) HL.out).mono fun r w9 ⟨a, c, h1, h2, h3⟩ => ⟨_, h1, ⟨a, c, rfl, HoldsB.ofRow hS.2.2.1.bytes h2⟩, h3⟩
    · obtain ⟨h0, h2⟩ := h
      have e0 : γ 0 = dgV key := h0
      have p2 : ∃ a c, (γ 2) = .agg #[.int .i64 p.fr, .int .i64 p.to, .int .u64 p.bo, .int .u64 p.co, .int .i64 p.ki, .slice a p.n c] ∧ HoldsB wx wx.heap.size (.slice a p.n c) tp := h2
      obtain ⟨a, c, e2, h9⟩ := p2
      refine ⟨_, rfl, Or.inl ⟨rfl, predRun_call (f := 8) (args := #[dgV key, .agg #[.int .i64 p.fr, .int .i64 p.to, .int .u64 p.bo, .int .u64 p.co, .int .i64 p.ki, .slice a p.n c]]) (by simp only [putE, e0, e2]; go_simp) ?_⟩⟩
      exact (seal_all key ⟨p.fr, p.to, p.bo, p.co, p.ki, a, p.n, c⟩ tp wx hS.2.2.2.2.1 HKEY.out h9 HID.out).mono fun r w9 ⟨a, n, c, h1, h2, h3⟩ => ⟨_, h1, ⟨a, n, c, by rw [HE.out]; rfl, by rw [HX.out]; exact h2⟩, h3⟩
    · have h3 := h
      have p3 : ∃ a n c, (γ 3) = .tuple #[.slice a n c, .int .i64 E] ∧ HoldsB wx wx.heap.size (.slice a n c) X := h3
      obtain ⟨a, n, c, e3, h9⟩ := p3
      refine ⟨_, rfl, ?_⟩
      refine predOp_val (v := .tuple #[.slice a n c, .int .i64 E]) ?_ ?_ ?_
      · kernel_rfl
      · simp only [putE, e3]
        go_simp
      · exact ⟨a, n, c, rfl, h9⟩
    · have h4 := h
      have p4 : ∃ a n c, (γ 4) = .tuple #[.slice a n c, .int .i64 E] ∧ HoldsB wx wx.heap.size (.slice a n c) X := h4
      obtain ⟨a, n, c, e4, h9⟩ := p4
      refine ⟨_, rfl, ?_⟩
      refine predOp_val (v := .slice a n c) ?_ ?_ ?_
      · kernel_rfl
      · simp only [putE, e4]
        go_simp
      · exact ⟨a, n, c, rfl, h9⟩
    · have h4 := h
      have p4 : ∃ a n c, (γ 4) = .tuple #[.slice a n c, .int .i64 E] ∧ HoldsB wx wx.heap.size (.slice a n c) X := h4
      obtain ⟨a, n, c, e4, h9⟩ := p4
      refine ⟨_, rfl, ?_⟩
      refine predOp_val (v := .int .i64 E) ?_ ?_ ?_
      · kernel_rfl
      · simp only [putE, e4]
        go_simp
      · rfl
  · refine ⟨fun γ wx hS h => ?_, trivial⟩
    · have h4 := h
      have p4 : ∃ a n c, (γ 4) = .tuple #[.slice a n c, .int .i64 E] ∧ HoldsB wx wx.heap.size (.slice a n c) X := h4
      obtain ⟨a, n, c, e4, hh⟩ := p4
      refine ⟨_, .int .i64 E, rfl, Or.inl ⟨rfl, fun wz => by simp only [putE, e4]; first | rfl | (go_simp; done) | (go_simp; rfl)⟩, rfl⟩
  · intro γ w9 hS h
    obtain ⟨xa, xn, xc, e5, h9⟩ := h.2.2.2.2.2.1
    have e6 : γ 6 = .int .i64 E := h.2.2.2.2.2.2
    simp only [putE, Act.put, List.setIfInBounds_toArray, List.set_cons_zero, List.set_cons_succ]
    rw [e5, e6]
    have HX9 := Kp.mk h9
    have S9 : Kp (BSt w A key B tp p (.slice va vn vc) w9) := ⟨⟨⟨hS.1, hS.2.2.2.1, hS.2.2.2.2.1, hS.2.2.2.2.2⟩, hS.2.1, hS.2.2.1⟩⟩
    clear h hS e5 e6 h9
    generalize γ 0 = y0
    generalize γ 1 = y1
    generalize γ 2 = y2
    generalize γ 3 = y3
    generalize γ 4 = y4
    refine wpOps_step rfl rfl ?_
    go_simp
    refine wpOps_step rfl rfl ?_
    go_simp
    refine wpOps_done ?_
    by_cases hE : E = 0
    · have qE : (E == 0) = true := by simp [hE]
      have HE0 := Kp.mk hE
      clear hE
      go_wp2_with (refine wpList_load_row rfl 22 (.tmp 3) rfl A rfl 22 (kv .u8 key).toArray (0, 0) _ S9.out.o.k Tryd.underlying22 rfl (cells22 HKEY.out.1) ?_)
      refine (C3.out HE0.out w9.heap.size _ _ S9.out.o.n HX9.out (Nat.le_refl _)).mono ?_
      rintro r w1 ⟨a1, n1, c1, rfl, hh, hb⟩
      have U1 := Kp.mk (S9.out.more hb)
      have HH1 := Kp.mk hh
      clear hh hb
      obtain ⟨N1, hN1⟩ : ∃ N1, N1 = w1.heap.size := ⟨_, rfl⟩
      have HN1 := Kp.mk hN1
      have L1 : Kp (A + 1 < N1) := ⟨by rw [hN1]; exact U1.out.b.lt⟩
      clear hN1
      go_wp2_with (first
        | (refine wpList_store_row rfl 30 (.tmp 9) (.tmp 28) rfl w1.heap.size #[.int .i64 p.fr, .int .i64 p.to, .int .u64 p.bo, .int .u64 p.co, .int .i64 p.ki, .slice a1 n1 c1] rfl rfl 30 _ (Blk.newAt _ rfl) info30s rfl (six_one _ _ _ _ _ _ _ _) ?_; rw [← HN1.out]; refine wpl_world (w := (w1.alloc RZ).setRow N1 #[.int .i64 p.fr, .int .i64 p.to, .int .u64 p.bo, .int .u64 p.co, .int .i64 p.ki, .slice a1 n1 c1]) (fun W => BSt w A key B tp p (.slice va vn vc) W ∧ FIn W N1 30 #[.int .i64 p.fr, .int .i64 p.to, .int .u64 p.bo, .int .u64 p.co, .int .i64 p.ki, .slice a1 n1 c1] (.slice a1 n1 c1) tp) ⟨(U1.out.more (more (Below.refl _ _) _)).turn (Turn.ofRow (Blk.newAt _ HN1.out) _) (by have := L1.out; omega), FIn.set (Blk.newAt _ HN1.out) (by rw [HN1.out]; exact HH1.out.alloc _)⟩ ?_; rintro W1 h1; have S1 := Kp.mk h1; clear h1)
        | (refine wpList_load_row rfl 22 (.tmp 3) rfl A rfl 22 (kv .u8 key).toArray (0, 0) _ S1.out.1.o.k Tryd.underlying22 rfl (cells22 HKEY.out.1) ?_))
      refine wp_region_flow (fun W => BSt w A key B tp p (.slice va vn vc) W ∧ FIn W N1 30 #[.int .i64 p.fr, .int .i64 p.to, .int .u64 p.bo, .int .u64 p.co, .int .i64 p.ki, .slice a1 n1 c1] (.slice a1 n1 c1) tp) (by kernel_rfl) (by kernel_rfl) (by kernel_rfl) (fun w1 w2 h hb => ⟨h.1.more hb, h.2.more hb⟩) ⟨S1.out.1.more (Below.refl _ _).drew, S1.out.2.more (Below.refl _ _).drew⟩ ?_
      refine Flow.value (v := .int .i64 0) (by first | rfl | kernel_rfl) (fun wx hS => by go_simp; first | done | with_reducible rfl | rfl) ?_
      try simp only [Act.put, List.setIfInBounds_toArray, List.set_cons_zero, List.set_cons_succ]
      refine Flow.value (v := .bool false) (by first | rfl | kernel_rfl) (fun wx hS => by go_simp; first | done | with_reducible rfl | rfl) ?_
      try simp only [Act.put, List.setIfInBounds_toArray, List.set_cons_zero, List.set_cons_succ]
      refine Flow.value (v := .bool false) (by first | rfl | kernel_rfl) (fun wx hS => by go_simp; first | done | with_reducible rfl | rfl) ?_
      try simp only [Act.put, List.setIfInBounds_toArray, List.set_cons_zero, List.set_cons_succ]
      refine Flow.value (v := .agg #[.int .i64 p.fr, .int .i64 p.to, .int .u64 p.bo, .int .u64 p.co, .int .i64 p.ki, .slice a1 n1 c1]) (by first | rfl | kernel_rfl) (fun wx hS => by exact exec_load_blk 30 (.tmp 9) rfl N1 rfl 30 _ (0, 0) _ hS.2.b Tryd.underlying30 rfl info30s) ?_
      try simp only [Act.put, List.setIfInBounds_toArray, List.set_cons_zero, List.set_cons_succ]
      refine Flow.call (v := .agg #[.int .i64 p.fr, .int .i64 p.to, .int .u64 p.bo, .int .u64 p.co, .int .i64 p.ki, .slice a1 n1 c1]) (by first | rfl | kernel_rfl) (f := 19) (args := #[.agg #[.int .i64 p.fr, .int .i64 p.to, .int .u64 p.bo, .int .u64 p.co, .int .i64 p.ki, .slice a1 n1 c1]]) (fun wx hS => by go_simp) (fun wx hS => from_any _ _ _ _ _ _ _ _ wx) ?_
      try simp only [Act.put, List.setIfInBounds_toArray, List.set_cons_zero, List.set_cons_succ]
      refine Flow.value (v := .agg #[.int .i64 p.fr, .int .i64 p.to, .int .u64 p.bo, .int .u64 p.co, .int .i64 p.ki, .slice p.a p.n p.c]) (by first | rfl | kernel_rfl) (fun wx hS => by exact exec_load_blk 26 (.tmp 4) rfl (A + 1) rfl 26 _ (0, 0) _ hS.1.b Tryd.underlying26 rfl info26s) ?_
      try simp only [Act.put, List.setIfInBounds_toArray, List.set_cons_zero, List.set_cons_succ]
      refine Flow.call (v := .bool true) (by first | rfl | kernel_rfl) (f := 18) (args := #[.agg #[.int .i64 p.fr, .int .i64 p.to, .int .u64 p.bo, .int .u64 p.co, .int .i64 p.ki, .slice a1 n1 c1], .agg #[.int .i64 p.fr, .int .i64 p.to, .int .u64 p.bo, .int .u64 p.co, .int .i64 p.ki, .slice p.a p.n p.c]]) (fun wx hS => by go_simp) (fun wx hS => same_one _ _ _ _ _ _ _ _ _ _ _ _ _ tp wx hS.2.m hS.1.t) ?_
      try simp only [Act.put, List.setIfInBounds_toArray, List.set_cons_zero, List.set_cons_succ]
      refine Flow.value (v := .bool false) (by first | rfl | kernel_rfl) (fun wx hS => by go_simp; first | done | with_reducible rfl | rfl) ?_
      try simp only [Act.put, List.setIfInBounds_toArray, List.set_cons_zero, List.set_cons_succ]
      refine Flow.value (v := .bool false) (by first | rfl | kernel_rfl) (fun wx hS => by go_simp; first | done | with_reducible rfl | rfl) ?_
      try simp only [Act.put, List.setIfInBounds_toArray, List.set_cons_zero, List.set_cons_succ]
      refine Flow.done ?_
      intro w3 hS
      have S3 := Kp.mk hS.1
      clear hS
      go_wp2_with (refine wpList_load_row rfl 22 (.tmp 3) rfl A rfl 22 (kv .u8 key).toArray (0, 0) _ S3.out.o.k Tryd.underlying22 rfl (cells22 HKEY.out.1) ?_)
      refine (C4.out A _ _ S3.out.o.n S3.out.o.b (Nat.le_of_lt S3.out.o.k.lt)).mono ?_
      rintro r w2 ⟨a2, n2, c2, rfl, hh, hb⟩
      have U2 := Kp.mk (S3.out.more hb)
      have HH2 := Kp.mk hh
      clear hh hb
      obtain ⟨N2, hN2⟩ : ∃ N2, N2 = w2.heap.size := ⟨_, rfl⟩
      have HN2 := Kp.mk hN2
      have L2 : Kp (A + 1 < N2) := ⟨by rw [hN2]; exact U2.out.b.lt⟩
      clear hN2
      by_cases hO : O = 0
      · have qO : (O == 0) = true := by simp [hO]
        have HO := Kp.mk hO
        clear hO
        go_wp2_with (first
          | (refine wpList_store_row rfl 30 (.tmp 11) (.tmp 43) rfl w2.heap.size #[.int .i64 g1, .int .i64 g2, .int .u64 g3, .int .u64 g4, .int .i64 g5, .slice a2 n2 c2] rfl rfl 30 _ (Blk.newAt _ rfl) info30s rfl (six_one _ _ _ _ _ _ _ _) ?_; rw [← HN2.out]; refine wpl_world (w := (w2.alloc RZ).setRow N2 #[.int .i64 g1, .int .i64 g2, .int .u64 g3, .int .u64 g4, .int .i64 g5, .slice a2 n2 c2]) (fun W => BSt w A key B tp p (.slice va vn vc) W ∧ FIn W N2 30 #[.int .i64 g1, .int .i64 g2, .int .u64 g3, .int .u64 g4, .int .i64 g5, .slice a2 n2 c2] (.slice a2 n2 c2) Y) ⟨(U2.out.more (more (Below.refl _ _) _)).turn (Turn.ofRow (Blk.newAt _ HN2.out) _) (by have := L2.out; omega), FIn.set (Blk.newAt _ HN2.out) (by rw [HN2.out]; exact HH2.out.alloc _)⟩ ?_; rintro W2 h2; have S2 := Kp.mk h2; clear h2)
          | (refine wpList_load_row rfl 22 (.tmp 3) rfl A rfl 22 (kv .u8 key).toArray (0, 0) _ S2.out.1.o.k Tryd.underlying22 rfl (cells22 HKEY.out.1) ?_)
          | (refine wpList_load_row rfl 30 (.tmp 11) rfl N2 rfl 30 #[.int .i64 g1, .int .i64 g2, .int .u64 g3, .int .u64 g4, .int .i64 g5, .slice a2 n2 c2] (0, 0) _ S2.out.2.b Tryd.underlying30 rfl info30s ?_))
        refine (C5.out HO.out a2 n2 c2 _ S2.out.1.o.n (S2.out.2.m.mono (Nat.le_of_lt S2.out.2.b.lt))).mono ?_
        rintro r w5 ⟨a5, n5, c5, rfl, hh, hb⟩
        have U5 := Kp.mk (S2.out.1.more hb)
        have HH5 := Kp.mk hh
        obtain ⟨sx, hsx⟩ : ∃ sx, sx = strOfNums B := ⟨_, rfl⟩
        have q1 : (convert 24 9 (.slice a5 n5 c5)).run Tryd.prog w5 = .ok (.string sx) w5 := by rw [hsx]; exact hh.text
        have q2 : (convert 24 9 (.slice va vn vc)).run Tryd.prog w5 = .ok (.string sx) w5 := by rw [hsx]; exact U5.out.o.b.text
        have q3 : (sx.toList == sx.toList) = true := by simp
        have q4 : (sx.toList != sx.toList) = false := by simp
        clear hh hb hsx
        go_wp2_with fail
        refine (awake_any _ U5.out.o.n).mono ?_
        rintro r w6 ⟨rfl, hb⟩
        have U6 := Kp.mk (U5.out.more hb)
        clear hb
        go_wp2_with fail
        go_ret
        exact ⟨rfl, by rw [← HA.out]; exact U6.out.o.below⟩
      · have qO : (O == 0) = false := by simp [hO]
        clear hO
        go_wp2_with (first
          | (refine wpList_store_row rfl 30 (.tmp 11) (.tmp 43) rfl w2.heap.size #[.int .i64 g1, .int .i64 g2, .int .u64 g3, .int .u64 g4, .int .i64 g5, .slice a2 n2 c2] rfl rfl 30 _ (Blk.newAt _ rfl) info30s rfl (six_one _ _ _ _ _ _ _ _) ?_; rw [← HN2.out]; refine wpl_world (w := (w2.alloc RZ).setRow N2 #[.int .i64 g1, .int .i64 g2, .int .u64 g3, .int .u64 g4, .int .i64 g5, .slice a2 n2 c2]) (fun W => BSt w A key B tp p (.slice va vn vc) W ∧ FIn W N2 30 #[.int .i64 g1, .int .i64 g2, .int .u64 g3, .int .u64 g4, .int .i64 g5, .slice a2 n2 c2] (.slice a2 n2 c2) Y) ⟨(U2.out.more (more (Below.refl _ _) _)).turn (Turn.ofRow (Blk.newAt _ HN2.out) _) (by have := L2.out; omega), FIn.set (Blk.newAt _ HN2.out) (by rw [HN2.out]; exact HH2.out.alloc _)⟩ ?_; rintro W2 h2; have S2 := Kp.mk h2; clear h2)
          | (refine wpList_load_row rfl 22 (.tmp 3) rfl A rfl 22 (kv .u8 key).toArray (0, 0) _ S2.out.1.o.k Tryd.underlying22 rfl (cells22 HKEY.out.1) ?_))
        refine (awake_any _ S2.out.1.o.n).mono ?_
        rintro r w6 ⟨rfl, hb⟩
        have U6 := Kp.mk (S2.out.1.more hb)
        clear hb
        go_wp2_with fail
        go_ret
        exact ⟨rfl, by rw [← HA.out]; exact U6.out.o.below⟩
    · have qE : (E == 0) = false := by simp [hE]
      clear hE
      go_wp2_with (refine wpList_load_row rfl 22 (.tmp 3) rfl A rfl 22 (kv .u8 key).toArray (0, 0) _ S9.out.o.k Tryd.underlying22 rfl (cells22 HKEY.out.1) ?_)
      refine (C4.out A _ _ S9.out.o.n S9.out.o.b (Nat.le_of_lt S9.out.o.k.lt)).mono ?_
      rintro r w2 ⟨a2, n2, c2, rfl, hh, hb⟩
      have U2 := Kp.mk (S9.out.more hb)
      have HH2 := Kp.mk hh
      clear hh hb
      obtain ⟨N2, hN2⟩ : ∃ N2, N2 = w2.heap.size := ⟨_, rfl⟩
      have HN2 := Kp.mk hN2
      have L2 : Kp (A + 1 < N2) := ⟨by rw [hN2]; exact U2.out.b.lt⟩
      clear hN2
      by_cases hO : O = 0
      · have qO : (O == 0) = true := by simp [hO]
        have HO := Kp.mk hO
        clear hO
        go_wp2_with (first
          | (refine wpList_store_row rfl 30 (.tmp 11) (.tmp 43) rfl w2.heap.size #[.int .i64 g1, .int .i64 g2, .int .u64 g3, .int .u64 g4, .int .i64 g5, .slice a2 n2 c2] rfl rfl 30 _ (Blk.newAt _ rfl) info30s rfl (six_one _ _ _ _ _ _ _ _) ?_; rw [← HN2.out]; refine wpl_world (w := (w2.alloc RZ).setRow N2 #[.int .i64 g1, .int .i64 g2, .int .u64 g3, .int .u64 g4, .int .i64 g5, .slice a2 n2 c2]) (fun W => BSt w A key B tp p (.slice va vn vc) W ∧ FIn W N2 30 #[.int .i64 g1, .int .i64 g2, .int .u64 g3, .int .u64 g4, .int .i64 g5, .slice a2 n2 c2] (.slice a2 n2 c2) Y) ⟨(U2.out.more (more (Below.refl _ _) _)).turn (Turn.ofRow (Blk.newAt _ HN2.out) _) (by have := L2.out; omega), FIn.set (Blk.newAt _ HN2.out) (by rw [HN2.out]; exact HH2.out.alloc _)⟩ ?_; rintro W2 h2; have S2 := Kp.mk h2; clear h2)
          | (refine wpList_load_row rfl 22 (.tmp 3) rfl A rfl 22 (kv .u8 key).toArray (0, 0) _ S2.out.1.o.k Tryd.underlying22 rfl (cells22 HKEY.out.1) ?_)
          | (refine wpList_load_row rfl 30 (.tmp 11) rfl N2 rfl 30 #[.int .i64 g1, .int .i64 g2, .int .u64 g3, .int .u64 g4, .int .i64 g5, .slice a2 n2 c2] (0, 0) _ S2.out.2.b Tryd.underlying30 rfl info30s ?_))
        refine (C5.out HO.out a2 n2 c2 _ S2.out.1.o.n (S2.out.2.m.mono (Nat.le_of_lt S2.out.2.b.lt))).mono ?_
        rintro r w5 ⟨a5, n5, c5, rfl, hh, hb⟩
        have U5 := Kp.mk (S2.out.1.more hb)
        have HH5 := Kp.mk hh
        obtain ⟨sx, hsx⟩ : ∃ sx, sx = strOfNums B := ⟨_, rfl⟩
        have q1 : (convert 24 9 (.slice a5 n5 c5)).run Tryd.prog w5 = .ok (.string sx) w5 := by rw [hsx]; exact hh.text
        have q2 : (convert 24 9 (.slice va vn vc)).run Tryd.prog w5 = .ok (.string sx) w5 := by rw [hsx]; exact U5.out.o.b.text
        have q3 : (sx.toList == sx.toList) = true := by simp
        have q4 : (sx.toList != sx.toList) = false := by simp
        clear hh hb hsx
        go_wp2_with fail
        refine (awake_any _ U5.out.o.n).mono ?_
        rintro r w6 ⟨rfl, hb⟩
        have U6 := Kp.mk (U5.out.more hb)
        clear hb
        go_wp2_with fail
        go_ret
        exact ⟨rfl, by rw [← HA.out]; exact U6.out.o.below⟩
      · have qO : (O == 0) = false := by simp [hO]
        clear hO
        go_wp2_with (first
          | (refine wpList_store_row rfl 30 (.tmp 11) (.tmp 43) rfl w2.heap.size #[.int .i64 g1, .int .i64 g2, .int .u64 g3, .int .u64 g4, .int .i64 g5, .slice a2 n2 c2] rfl rfl 30 _ (Blk.newAt _ rfl) info30s rfl (six_one _ _ _ _ _ _ _ _) ?_; rw [← HN2.out]; refine wpl_world (w := (w2.alloc RZ).setRow N2 #[.int .i64 g1, .int .i64 g2, .int .u64 g3, .int .u64 g4, .int .i64 g5, .slice a2 n2 c2]) (fun W => BSt w A key B tp p (.slice va vn vc) W ∧ FIn W N2 30 #[.int .i64 g1, .int .i64 g2, .int .u64 g3, .int .u64 g4, .int .i64 g5, .slice a2 n2 c2] (.slice a2 n2 c2) Y) ⟨(U2.out.more (more (Below.refl _ _) _)).turn (Turn.ofRow (Blk.newAt _ HN2.out) _) (by have := L2.out; omega), FIn.set (Blk.newAt _ HN2.out) (by rw [HN2.out]; exact HH2.out.alloc _)⟩ ?_; rintro W2 h2; have S2 := Kp.mk h2; clear h2)
          | (refine wpList_load_row rfl 22 (.tmp 3) rfl A rfl 22 (kv .u8 key).toArray (0, 0) _ S2.out.1.o.k Tryd.underlying22 rfl (cells22 HKEY.out.1) ?_))
        refine (awake_any _ S2.out.1.o.n).mono ?_
        rintro r w6 ⟨rfl, hb⟩
        have U6 := Kp.mk (S2.out.1.more hb)
        clear hb
        go_wp2_with fail
        go_ret
        exact ⟨rfl, by rw [← HA.out]; exact U6.out.o.below⟩
theorem yX_id {key B : List Int} (h : oErr key B = 0) (n : Int) : yX key B n = n := if_pos h
theorem oErr_tErr {key B : List Int} (h : oErr key B = 0) : tErr B = 0 ∧ tTag B = tagM key (B.take (B.length - 16)) := by
  unfold oErr at h
  by_cases h1 : tErr B = 0
  · rw [if_neg (by simp [h1])] at h
    by_cases h2 : tTag B = tagM key (B.take (B.length - 16))
    · exact ⟨h1, h2⟩
    · rw [if_neg h2] at h
      exact absurd h (by decide)
  · rw [if_pos h1] at h
    exact absurd h h1
/-- What is sealed is opened. -/
theorem sealed_opened {key : List Int} {p : FV} {tp : List Int} (hp : frB p = true) (hid : BigP p) (hn : p.n = tp.length) :
    oErr key (sealX key p tp) = 0 ∧ tFr (sealX key p tp) = p.fr ∧ tTo (sealX key p tp) = p.to ∧ tBo (sealX key p tp) = p.bo ∧ tCo (sealX key p tp) = p.co ∧ tKi (sealX key p tp) = p.ki ∧ yT key (sealX key p tp) = tp ∧ tErr (sealX key p tp) = 0 ∧ 16 ≤ (sealX key p tp).length ∧ (sealX key p tp).length ≤ 140737488351232 := by
  have hX : sealX key p tp = laidM p tp ++ tagM key (laidM p tp) := by unfold sealX sealM; rw [if_pos hp]
  obtain ⟨h0, h1, h2, h3, h4, h5, h6, h7, h8, h9⟩ := laid_taken hp hid hn (tagM_len key (laidM p tp)) hX
  have ho : oErr key (sealX key p tp) = 0 := by
    unfold oErr
    rw [if_neg (by simp [h0]), if_pos (by rw [h7, h9])]
  have hl : (sealX key p tp).length = (laidM p tp).length + 16 := by rw [hX, List.length_append, tagM_len]
  refine ⟨ho, h1, h2, h3, h4, h5, ?_, h0, by omega, ?_⟩
  · rw [yT_good ho h0]
    unfold xT
    rw [if_pos h0, h6]
  · have := (frB_is hp).2.2.2.2.2.2.2
    rw [hl, laidM_len]
    omega
theorem opened_sealed {key B : List Int} (hb : Bytes B) (h : oErr key B = 0) (a : Option Addr) (n c : Nat) (hn : n = (yT key B).length) :
    BigP ⟨yX key B (tFr B), yX key B (tTo B), yX key B (tBo B), yX key B (tCo B), yX key B (tKi B), a, n, c⟩ ∧ sealE ⟨yX key B (tFr B), yX key B (tTo B), yX key B (tBo B), yX key B (tCo B), yX key B (tKi B), a, n, c⟩ = 0 ∧ sealX key ⟨yX key B (tFr B), yX key B (tTo B), yX key B (tBo B), yX key B (tCo B), yX key B (tKi B), a, n, c⟩ (yT key B) = B := by
  obtain ⟨h0, hT⟩ := oErr_tErr h
  obtain ⟨h1, h2, h3, h4, h5⟩ := taken_laid hb h0
  have hy : yT key B = tBody B := by rw [yT_good h h0]; unfold xT; rw [if_pos h0]
  rw [hy] at hn
  rw [yX_id h, yX_id h, yX_id h, yX_id h, yX_id h, hy]
  subst hn
  have hf : frB ⟨tFr B, tTo B, tBo B, tCo B, tKi B, a, (tBody B).length, c⟩ = true := h4
  have hL : laidM ⟨tFr B, tTo B, tBo B, tCo B, tKi B, a, (tBody B).length, c⟩ (tBody B) = B.take (B.length - 16) := h2
  refine ⟨⟨big_lt hb _ _, big_lt hb _ _⟩, by unfold sealE; rw [if_pos hf], ?_⟩
  unfold sealX sealM
  rw [if_pos hf, hL, ← hT, h3, List.take_append_drop]
set_option maxRecDepth 100000 in
set_option maxHeartbeats 4000000 in
theorem back_walk (key B tp : List Int) (v : Value) (p : FV) (w : World) (hk : KonIs w) (hkey : key.length = 32 ∧ Bytes key) (hv : HoldsB w w.heap.size v B) (h : HoldsB w w.heap.size (.slice p.a p.n p.c) tp) (hid : BigP p) (hl : tp.length ≤ 140737488351232) (hr : B.length ≤ 140737488351232) :
    Calls Tryd.prog 5 #[dgV key, p.v, v] w fun r w' => r = .returned (.bool true) ∧ Below w.heap.size w w' := by
  have hn : p.n = tp.length := by
    obtain ⟨a1, n1, c1, e1, e2⟩ := h.slice
    simp only [Value.slice.injEq] at e1
    omega
  have hB := hv.bytes
  refine back_core key B tp v p w hk hkey hv h hid hl (sealE p) (oErr key B) (yX key B (tFr B)) (yX key B (tTo B)) (yX key B (tBo B)) (yX key B (tCo B)) (yX key B (tKi B)) (sealX key p tp) (yT key B) rfl rfl ⟨fun hE M v w hk hh hM => ?_⟩
    ⟨fun M v w hk h hM => (open_any M v key B w hk hkey h hM hr (fun h0 => (taken_laid h.bytes h0).1)).mono fun r w' ⟨a, c, h1, h2, h3⟩ => ⟨a, _, c, h1, h2, h3⟩⟩ ⟨fun hO a n c w hk hh => ?_⟩
  · have hp : frB p = true := by
      unfold sealE at hE
      false_or_by_contra
      rename_i hne
      rw [if_neg hne] at hE
      exact absurd hE (by decide)
    obtain ⟨h0, h1, h2, h3, h4, h5, h6, h7, h8, h9⟩ := sealed_opened (key := key) hp hid hn
    refine (open_any M v key (sealX key p tp) w hk hkey hh hM h9 (fun _ => h8)).mono fun r w' ⟨a, c, e1, e2, e3⟩ => ⟨a, _, c, ?_, by rw [h6] at e2; exact e2, e3⟩
    rw [e1]
    simp only [yF, yX_id h0, h0, h1, h2, h3, h4, h5, h6]
  · have hn : n = (yT key B).length := by
      obtain ⟨a1, n1, c1, e1, e2⟩ := hh.slice
      simp only [Value.slice.injEq] at e1
      omega
    obtain ⟨h1, h2, h3⟩ := opened_sealed hB hO a n c hn
    refine (seal_all key ⟨yX key B (tFr B), yX key B (tTo B), yX key B (tBo B), yX key B (tCo B), yX key B (tKi B), a, n, c⟩ (yT key B) w hk hkey hh h1).mono fun r w' ⟨a, n, c, e1, e2, e3⟩ => ⟨a, n, c, by rw [e1, h2], by rw [h3] at e2; exact e2, e3⟩
theorem frameBack_walk (key : List Int) (p : FV) (tp : List Int) (a : Option Addr) (len cap : Nat) (l : List Int) (w : World) (l0 : key.length = 32) (b0 : Bytes key) (h : HoldsB w w.heap.size (.slice p.a p.n p.c) tp) (hid : BigP p) (_ : I64 p.fr ∧ I64 p.to ∧ I64 p.ki) (hl : tp.length ≤ 140737488351232) (hv : HoldsB w w.heap.size (.slice a len cap) l) (hr : len ≤ 140737488351232) (hk : KonIs w) :
    Calls Tryd.prog 5 #[.agg (kv .u8 key).toArray, p.v, .slice a len cap] w fun r w' => r = .returned (.bool true) ∧ Below w.heap.size w w' :=
  back_walk key l tp _ p w hk ⟨l0, b0⟩ hv h hid hl (by
    obtain ⟨a1, n1, c1, e1, e2⟩ := hv.slice
    simp only [Value.slice.injEq] at e1
    omega)
end Go.Proofs.YtgabjmmmiogfjaaDoor
