/-
  The document's Peek (one).
-/
import Derived.Test.YtgabjmmmiogfjaaDoorFrN
namespace Go.Proofs.YtgabjmmmiogfjaaDoor
open Go.RowKit

set_option maxRecDepth 100000 in
set_option maxHeartbeats 8000000 in
theorem rpeek_one (M : Nat) (v : Value) (B : List Int) (w : World) (h : HoldsB w M v B) (hM : M ≤ w.heap.size) (hv : tE0 B = 0) (hv1 : tV B = 1) : Calls Tryd.prog 15 #[v] w (RPeekPost B w) := by
  have HBB := Kp.mk h.bytes
  have H := Kp.mk h
  obtain ⟨va, vn, vc, rfl, -⟩ := h.slice
  obtain ⟨F, hF⟩ : ∃ F, F = w.heap.size := ⟨_, rfl⟩
  have HFe := Kp.mk hF
  have HMF : Kp (M ≤ F) := ⟨by rw [hF]; exact hM⟩
  clear h hF hM
  go_enter Tryd.func15, Tryd.ntmps15
  go_wp2_with (refine wpList_alloc_row rfl 40 rfl _ _ infoz40 ?_; rw [show (w.alloc RZ26).heap.size = F + 1 by rw [HFe.out]; simp, ← HFe.out]; refine wpl_world (w := (w.alloc RZ26).alloc (.cells (kv .u8 (fill 16 [])).toArray 40)) (fun w4 => Blk w4 F RZ26 ∧ Row w4 (F + 1) 40 .u8 (fill 16 []) ∧ Below F w w4 ∧ HoldsB w4 M (.slice va vn vc) B ∧ F + 2 = w4.heap.size) ⟨(Blk.newAt _ HFe.out).old _, Blk.newAt _ (by rw [HFe.out]; simp), by rw [HFe.out]; exact more (more (Below.refl _ _) _) _, (H.out.alloc _).alloc _, by rw [HFe.out]; simp⟩ ?_; rintro w4 ⟨k1, k2, k3, k4, k5⟩; have H1 := Kp.mk k1; have H2 := Kp.mk k2; have H3 := Kp.mk k3; have H4 := Kp.mk k4; have H5 := Kp.mk k5; clear k1 k2 k3 k4 k5)
  rw [← H5.out]
  have D0 : Kp (RefIs (w4.alloc (.cells #[.slice va vn vc, .int .i64 0, .int .i64 0] 92)) M (F + 2) B 0 0 ∧ Blk (w4.alloc (.cells #[.slice va vn vc, .int .i64 0, .int .i64 0] 92)) F RZ26 ∧ Row (w4.alloc (.cells #[.slice va vn vc, .int .i64 0, .int .i64 0] 92)) (F + 1) 40 .u8 (fill 16 []) ∧ Below F w (w4.alloc (.cells #[.slice va vn vc, .int .i64 0, .int .i64 0] 92))) :=
    ⟨⟨by have := HMF.out; omega, ⟨_, H4.out.alloc _, Blk.newAt _ H5.out⟩, by omega⟩, H1.out.old _, H2.out.alloc _, H3.out.alloc (by have := H5.out; omega) _⟩
  clear H1 H2 H3 H4 H5
  generalize w4.alloc (.cells #[.slice va vn vc, .int .i64 0, .int .i64 0] 92) = W0 at *
  refine (num_any M (F + 2) B _ _ 1 _ D0.out.1 (by decide)).mono ?_
  rintro r w1 ⟨rfl, s1⟩
  rw [show numOf (rawP B 0 0 1) = tV B from rfl]
  have D1 : Kp (RefIs w1 M (F + 2) B (tA1 B) (tE0 B) ∧ Blk w1 F RZ26 ∧ Row w1 (F + 1) 40 .u8 (fill 16 []) ∧ Below F w w1) := ⟨s1.is, s1.keep D0.out.2.1 (by omega), s1.keep D0.out.2.2.1 (by omega), by obtain ⟨_, o, ho⟩ := s1; exact D0.out.2.2.2.trans (ho.below (by omega) (by have := D0.out.2.1.lt; omega))⟩
  clear s1 D0
  have c2 : w1.cell? ⟨F + 2, 2, none⟩ = some (.int .i64 (tE0 B)) := by
    obtain ⟨_, ⟨u, _, hb⟩, _⟩ := D1.out.1
    exact hb.cell 2
  have hve := tE1_one hv1
  rw [← hve] at D1 c2 hv
  rw [hv] at c2
  have HV := Kp.mk hv
  rw [hv1]
  clear hve hv hv1
  go_wp2_with fail
  clear c2
  obtain ⟨K, hK⟩ : ∃ K, K = w1.heap.size := ⟨_, rfl⟩
  have S1 : Kp (DSt w M F (F + 2) K #[.int .i64 0, .int .i64 0, .int .u64 0, .int .u64 0, .int .i64 0, .slice none 0 0] B (tA1 B) (tE1 B) (w1.alloc RZ26)) := ⟨⟨D1.out.1.keep (more (Below.refl _ _) _), D1.out.2.1.old _, D1.out.2.2.1.alloc _, Blk.newAt _ hK, D1.out.2.2.2.alloc (by have := D1.out.2.1.lt; omega) _, HMF.out, by omega, by rw [hK]; obtain ⟨_, ⟨u, _, hb⟩, _⟩ := D1.out.1; exact hb.lt⟩⟩
  rw [← hK]
  clear hK D1
  generalize w1.alloc RZ26 = WK at *
  refine (num_any M (F + 2) B _ _ 1 _ S1.out.i (by decide)).mono ?_
  rintro r w2 ⟨rfl, s1⟩
  rw [show numOf (rawP B (tA1 B) (tE1 B) 1) = tFr B from rfl]
  have S2 : Kp (DSt w M F (F + 2) K #[.int .i64 0, .int .i64 0, .int .u64 0, .int .u64 0, .int .i64 0, .slice none 0 0] B (tA2 B) (tE2 B) w2) := ⟨S1.out.step s1⟩
  clear s1 S1
  have B2 : 0 ≤ tFr B ∧ tFr B ≤ 255 := one_lt HBB.out _ _
  obtain ⟨n2, hn2⟩ : ∃ n2, n2 = tFr B := ⟨_, rfl⟩
  have HN2 := Kp.mk hn2
  rw [← hn2] at B2 ⊢
  clear hn2
  have k2 : IntKind.i64.wrap n2 = n2 := IntWalk.i64_in _ (by omega)
  have p0 := S2.out.k.frozen 0
  have c0 := S2.out.k.cell 0
  go_wp2_with fail
  have T2 : Kp (DSt w M F (F + 2) K #[.int .i64 n2, .int .i64 0, .int .u64 0, .int .u64 0, .int .i64 0, .slice none 0 0] B (tA2 B) (tE2 B) (w2.setCell ⟨K, 0, none⟩ (.int .i64 n2))) := ⟨S2.out.put 0 _⟩
  clear p0 c0 S2
  generalize w2.setCell ⟨K, 0, none⟩ (.int .i64 n2) = W2 at *
  refine (num_any M (F + 2) B _ _ 1 _ T2.out.i (by decide)).mono ?_
  rintro r w3 ⟨rfl, s1⟩
  rw [show numOf (rawP B (tA2 B) (tE2 B) 1) = tTo B from rfl]
  have S3 : Kp (DSt w M F (F + 2) K #[.int .i64 n2, .int .i64 0, .int .u64 0, .int .u64 0, .int .i64 0, .slice none 0 0] B (tA3 B) (tE3 B) w3) := ⟨T2.out.step s1⟩
  clear s1 T2
  have B3 : 0 ≤ tTo B ∧ tTo B ≤ 255 := one_lt HBB.out _ _
  obtain ⟨n3, hn3⟩ : ∃ n3, n3 = tTo B := ⟨_, rfl⟩
  have HN3 := Kp.mk hn3
  rw [← hn3] at B3 ⊢
  clear hn3
  have k3 : IntKind.i64.wrap n3 = n3 := IntWalk.i64_in _ (by omega)
  have p0 := S3.out.k.frozen 1
  have c0 := S3.out.k.cell 1
  go_wp2_with fail
  have T3 : Kp (DSt w M F (F + 2) K #[.int .i64 n2, .int .i64 n3, .int .u64 0, .int .u64 0, .int .i64 0, .slice none 0 0] B (tA3 B) (tE3 B) (w3.setCell ⟨K, 1, none⟩ (.int .i64 n3))) := ⟨S3.out.put 1 _⟩
  clear p0 c0 S3
  generalize w3.setCell ⟨K, 1, none⟩ (.int .i64 n3) = W3 at *
  refine (num_any M (F + 2) B _ _ 8 _ T3.out.i (by decide)).mono ?_
  rintro r w4 ⟨rfl, s1⟩
  rw [show numOf (rawP B (tA3 B) (tE3 B) 8) = tBo B from rfl]
  have S4 : Kp (DSt w M F (F + 2) K #[.int .i64 n2, .int .i64 n3, .int .u64 0, .int .u64 0, .int .i64 0, .slice none 0 0] B (tA4 B) (tE4 B) w4) := ⟨T3.out.step s1⟩
  clear s1 T3
  obtain ⟨n4, hn4⟩ : ∃ n4, n4 = tBo B := ⟨_, rfl⟩
  have HN4 := Kp.mk hn4
  rw [← hn4]
  clear hn4
  have p0 := S4.out.k.frozen 2
  have c0 := S4.out.k.cell 2
  go_wp2_with fail
  have T4 : Kp (DSt w M F (F + 2) K #[.int .i64 n2, .int .i64 n3, .int .u64 n4, .int .u64 0, .int .i64 0, .slice none 0 0] B (tA4 B) (tE4 B) (w4.setCell ⟨K, 2, none⟩ (.int .u64 n4))) := ⟨S4.out.put 2 _⟩
  clear p0 c0 S4
  generalize w4.setCell ⟨K, 2, none⟩ (.int .u64 n4) = W4 at *
  refine (num_any M (F + 2) B _ _ 8 _ T4.out.i (by decide)).mono ?_
  rintro r w5 ⟨rfl, s1⟩
  rw [show numOf (rawP B (tA4 B) (tE4 B) 8) = tCo B from rfl]
  have S5 : Kp (DSt w M F (F + 2) K #[.int .i64 n2, .int .i64 n3, .int .u64 n4, .int .u64 0, .int .i64 0, .slice none 0 0] B (tA5 B) (tE5 B) w5) := ⟨T4.out.step s1⟩
  clear s1 T4
  obtain ⟨n5, hn5⟩ : ∃ n5, n5 = tCo B := ⟨_, rfl⟩
  have HN5 := Kp.mk hn5
  rw [← hn5]
  clear hn5
  have p0 := S5.out.k.frozen 3
  have c0 := S5.out.k.cell 3
  go_wp2_with fail
  have T5 : Kp (DSt w M F (F + 2) K #[.int .i64 n2, .int .i64 n3, .int .u64 n4, .int .u64 n5, .int .i64 0, .slice none 0 0] B (tA5 B) (tE5 B) (w5.setCell ⟨K, 3, none⟩ (.int .u64 n5))) := ⟨S5.out.put 3 _⟩
  clear p0 c0 S5
  generalize w5.setCell ⟨K, 3, none⟩ (.int .u64 n5) = W5 at *
  refine (num_any M (F + 2) B _ _ 1 _ T5.out.i (by decide)).mono ?_
  rintro r w6 ⟨rfl, s1⟩
  rw [show numOf (rawP B (tA5 B) (tE5 B) 1) = tKi B from rfl]
  have S6 : Kp (DSt w M F (F + 2) K #[.int .i64 n2, .int .i64 n3, .int .u64 n4, .int .u64 n5, .int .i64 0, .slice none 0 0] B (tA6 B) (tE6 B) w6) := ⟨T5.out.step s1⟩
  clear s1 T5
  have B6 : 0 ≤ tKi B ∧ tKi B ≤ 255 := one_lt HBB.out _ _
  obtain ⟨n6, hn6⟩ : ∃ n6, n6 = tKi B := ⟨_, rfl⟩
  have HN6 := Kp.mk hn6
  rw [← hn6] at B6 ⊢
  clear hn6
  have k6 : IntKind.i64.wrap n6 = n6 := IntWalk.i64_in _ (by omega)
  have p0 := S6.out.k.frozen 4
  have c0 := S6.out.k.cell 4
  go_wp2_with fail
  have T6 : Kp (DSt w M F (F + 2) K #[.int .i64 n2, .int .i64 n3, .int .u64 n4, .int .u64 n5, .int .i64 n6, .slice none 0 0] B (tA6 B) (tE6 B) (w6.setCell ⟨K, 4, none⟩ (.int .i64 n6))) := ⟨S6.out.put 4 _⟩
  clear p0 c0 S6
  generalize w6.setCell ⟨K, 4, none⟩ (.int .i64 n6) = W6 at *
  refine (rblob_any M (F + 2) B _ _ 4096 _ T6.out.i (by decide) (by decide)).mono ?_
  rintro r w7 ⟨v7, rfl, ⟨hy, ho⟩, s1⟩
  rw [show rblobP B (tA6 B) (tE6 B) 4096 = tBody B from rfl] at ho hy
  have S7 : Kp (DSt w M F (F + 2) K #[.int .i64 n2, .int .i64 n3, .int .u64 n4, .int .u64 n5, .int .i64 n6, .slice none 0 0] B (tA7 B) (tE7 B) w7) := ⟨T6.out.step s1⟩
  have HK8 : Kp (K < W6.heap.size) := ⟨T6.out.k.lt⟩
  have HPB := Kp.mk hy
  have HO7 := Kp.mk ho
  obtain ⟨a7, m7, c7, rfl⟩ := row_shape ho
  have hm7 : m7 = (tBody B).length := by
    rcases ho.2 with ⟨e, h0⟩ | ⟨g, cap, cur, e, _⟩
    · simp only [Value.slice.injEq] at e; omega
    · simp only [Value.slice.injEq] at e; omega
  subst hm7
  clear s1 T6 ho hy
  have p0 := S7.out.k.frozen 5
  have c0 := S7.out.k.cell 5
  go_wp2_with fail
  have T7 : Kp (DSt w M F (F + 2) K #[.int .i64 n2, .int .i64 n3, .int .u64 n4, .int .u64 n5, .int .i64 n6, .slice a7 (tBody B).length c7] B (tA7 B) (tE7 B) (w7.setCell ⟨K, 5, none⟩ (.slice a7 (tBody B).length c7))) := ⟨S7.out.put 5 _⟩
  have HO8 : Kp ((w7.setCell ⟨K, 5, none⟩ (.slice a7 (tBody B).length c7)).ownsRow W6.heap.size 5 1 (.slice a7 (tBody B).length c7) (tBody B).length (bv (tBody B))) := ⟨ownsRow_turn HO7.out ((Turn.same S7.out.k).set 5 _) HK8.out⟩
  clear p0 c0 S7 HO7
  generalize w7.setCell ⟨K, 5, none⟩ (.slice a7 (tBody B).length c7) = W7 at *
  refine (risum_any M (F + 2) B _ _ W7 T7.out.i).mono ?_
  rintro r w10 ⟨rfl, s1⟩
  rw [show rsumP B (tA7 B) (tE7 B) = tTag B from rfl]
  have S8 : Kp (DSt w M F (F + 2) K #[.int .i64 n2, .int .i64 n3, .int .u64 n4, .int .u64 n5, .int .i64 n6, .slice a7 (tBody B).length c7] B (tA8 B) (tE8 B) w10) := ⟨T7.out.step s1⟩
  obtain ⟨oI, hoI⟩ := s1.turn
  have HO9 : Kp (w10.ownsRow W6.heap.size 5 1 (.slice a7 (tBody B).length c7) (tBody B).length (bv (tBody B))) := ⟨ownsRow_turn HO8.out hoI (by have := HK8.out; have := S8.out.rk; omega)⟩
  clear s1 T7 HO8 hoI
  obtain ⟨G, hG⟩ : ∃ G, G = tTag B := ⟨_, rfl⟩
  have HGE := Kp.mk hG
  have HGL : Kp (G.length = 16) := ⟨by rw [hG]; exact tTag_len B⟩
  rw [← hG, show sumV G = dgV G from rfl]
  clear hG
  obtain ⟨J, hJ⟩ : ∃ J, J = w10.heap.size := ⟨_, rfl⟩
  have HJ := Kp.mk hJ
  have HJI : Kp (K < J) := ⟨by rw [hJ]; exact S8.out.k.lt⟩
  have HLT : Kp ((Value.slice a7 (tBody B).length c7).ownBlock ≠ some J) := ⟨fun e => by have := (HO9.out.lt J e).2; omega⟩
  clear hJ
  go_wp2_with (first
    | (refine wpList_alloc_row rfl 40 rfl _ _ infoz40 ?_; rw [← HJ.out]; refine wpl_world (w := w10.alloc (.cells (kv .u8 (fill 16 [])).toArray 40)) (fun W => Row W J 40 .u8 (fill 16 []) ∧ DSt w M F (F + 2) K #[.int .i64 n2, .int .i64 n3, .int .u64 n4, .int .u64 n5, .int .i64 n6, .slice a7 (tBody B).length c7] B (tA8 B) (tE8 B) W ∧ W.ownsRow W6.heap.size 5 1 (.slice a7 (tBody B).length c7) (tBody B).length (bv (tBody B))) ⟨Blk.newAt _ HJ.out, S8.out.more (more (Below.refl _ _) _), ownsRow_below HO9.out (more (Below.refl _ _) _)⟩ ?_; rintro w11 h1; have H11 := Kp.mk h1; clear h1)
    | (refine wpList_store_row rfl 40 (.tmp 8) (.tmp 49) rfl J (kv .u8 G).toArray rfl rfl 40 _ H11.out.1 (cells40 HGL.out) (size40 HGL.out) (kv_all _ _) ?_; refine wpl_world (w := w11.setRow J (kv .u8 G).toArray) (fun W => Row W J 40 .u8 G ∧ DSt w M F (F + 2) K #[.int .i64 n2, .int .i64 n3, .int .u64 n4, .int .u64 n5, .int .i64 n6, .slice a7 (tBody B).length c7] B (tA8 B) (tE8 B) W ∧ W.ownsRow W6.heap.size 5 1 (.slice a7 (tBody B).length c7) (tBody B).length (bv (tBody B))) ⟨H11.out.1.setRow G, H11.out.2.1.turn (Turn.ofRow H11.out.1 _) HJI.out, ownsRow_off H11.out.2.2 (Turn.ofRow H11.out.1 _) HLT.out⟩ ?_; rintro w12 h1; have H12 := Kp.mk h1; clear h1))
  refine (rend_any M (F + 2) B _ _ _ H12.out.2.1.i).mono ?_
  rintro r w13 ⟨rfl, oE, hoE⟩
  rw [show (if 0 < rleft B (tA8 B) (tE8 B) then 10 else tE8 B) = tEnd B from rfl]
  have HX : Kp (F + 2 < K ∧ K < J ∧ F < W6.heap.size ∧ F + 1 < W6.heap.size) := ⟨by have := H12.out.2.1.rk; have := HJI.out; have := HK8.out; omega⟩
  have HF : Kp (Blk w13 F RZ26 ∧ Row w13 (F + 1) 40 .u8 (fill 16 []) ∧ Below F w w13) := ⟨hoE.keep H12.out.2.1.f (by omega), hoE.keep H12.out.2.1.s (by omega), H12.out.2.1.below.trans (hoE.below (by omega) (by have := H12.out.2.1.f.lt; omega))⟩
  have HKB : Kp (Blk w13 K (.cells #[.int .i64 n2, .int .i64 n3, .int .u64 n4, .int .u64 n5, .int .i64 n6, .slice a7 (tBody B).length c7] 26)) := ⟨hoE.keep H12.out.2.1.k (by have := HX.out; omega)⟩
  have HJR : Kp (Row w13 J 40 .u8 G) := ⟨hoE.keep H12.out.1 (by have := HX.out; omega)⟩
  have HOW : Kp (w13.ownsRow W6.heap.size 5 1 (.slice a7 (tBody B).length c7) (tBody B).length (bv (tBody B))) := ⟨ownsRow_turn H12.out.2.2 hoE (by have := HX.out; have := HK8.out; omega)⟩
  clear hoE H12 HO9 S8 HLT HJ HJI
  have hb26 := fun w => build26z w
  by_cases he : tEnd B = 0
  · have HE0 := Kp.mk he
    rw [he]
    clear he
    go_wp2_with (refine wpList_load_row rfl 26 (.tmp 7) rfl K rfl 26 #[.int .i64 n2, .int .i64 n3, .int .u64 n4, .int .u64 n5, .int .i64 n6, .slice a7 (tBody B).length c7] (0, 0) _ HKB.out Tryd.underlying26 rfl info26s ?_)
    refine (rright_any ⟨n2, n3, n4, n5, n6, a7, (tBody B).length, c7⟩ w13).mono ?_
    rintro r w14 ⟨rfl, hb⟩
    have hgr : frB ⟨n2, n3, n4, n5, n6, a7, (tBody B).length, c7⟩ = tR B := by rw [HN2.out, HN3.out, HN4.out, HN5.out, HN6.out]; rfl
    rw [hgr]
    replace HF : Kp (Blk w14 F RZ26 ∧ Row w14 (F + 1) 40 .u8 (fill 16 []) ∧ Below F w w14) := ⟨HF.out.1.keep hb, HF.out.2.1.keep hb, HF.out.2.2.trans (hb.mono (by have := HF.out.1.lt; omega))⟩
    replace HKB : Kp (Blk w14 K (.cells #[.int .i64 n2, .int .i64 n3, .int .u64 n4, .int .u64 n5, .int .i64 n6, .slice a7 (tBody B).length c7] 26)) := ⟨HKB.out.keep hb⟩
    replace HJR : Kp (Row w14 J 40 .u8 G) := ⟨HJR.out.keep hb⟩
    replace HOW : Kp (w14.ownsRow W6.heap.size 5 1 (.slice a7 (tBody B).length c7) (tBody B).length (bv (tBody B))) := ⟨ownsRow_below HOW.out hb⟩
    clear hb hgr
    cases hrr : tR B with
    | true =>
      have HGE0 : Kp (tErr B = 0) := ⟨by unfold tErr; rw [if_neg (by simp [HE0.out]), if_pos hrr]⟩
      clear hrr
      go_wp2_with fail
      have HTU := fun (W : World) (h : Blk W F RZ26) => turn6 h (.int .i64 n2) (.int .i64 n3) (.int .u64 n4) (.int .u64 n5) (.int .i64 n6) (.slice a7 (tBody B).length c7)
      refine wp_region_held_drew (S := (fun W => Blk W K (.cells #[.int .i64 n2, .int .i64 n3, .int .u64 n4, .int .u64 n5, .int .i64 n6, .slice a7 (tBody B).length c7] 26) ∧ Row W J 40 .u8 G ∧ Below F w W ∧ W.ownsRow W6.heap.size 5 1 (.slice a7 (tBody B).length c7) (tBody B).length (bv (tBody B)))) (by kernel_rfl) ⟨HKB.out.draw, HJR.out, Below.drew HF.out.2.2, HOW.out⟩ (fun hH => ?_)
      refine wpAnyH_take (i := 0) (oi := { dst := some 62, op := Go.Op.load 26 (Go.Operand.tmp 7), type := 26, pos := "ref.go:88", after := #[], guard := none }) (v := .agg #[.int .i64 n2, .int .i64 n3, .int .u64 n4, .int .u64 n5, .int .i64 n6, .slice a7 (tBody B).length c7]) rfl (by kernel_rfl) (by kernel_rfl) (by kernel_rfl) (fun _ _ _ h => h) (Or.inl ⟨by rfl, fun w hS => exec_load_row (x := .tmp 7) (g := K) (t := 26) (cs := #[.int .i64 n2, .int .i64 n3, .int .u64 n4, .int .u64 n5, .int .i64 n6, .slice a7 (tBody B).length c7]) (fr := (0, 0)) rfl (by rfl) hS.1 Tryd.underlying26 rfl info26s⟩) hH ?_
      simp only [Act.put, List.setIfInBounds_toArray, List.set_cons_zero, List.set_cons_succ]
      refine wpAnyH_take (i := 1) (oi := { dst := some 63, op := Go.Op.load 40 (Go.Operand.tmp 8), type := 40, pos := "ref.go:88", after := #[{ on := 2, ground := Go.Ground.gcOnly Go.Departure.lateStores }], guard := none }) (v := dgV G) rfl (by kernel_rfl) (by kernel_rfl) (by kernel_rfl) (fun _ _ _ h => h) (Or.inl ⟨by rfl, fun w hS => exec_load_row (x := .tmp 8) (g := J) (t := 40) (cs := (kv .u8 G).toArray) (fr := (0, 0)) rfl (by rfl) hS.2.1 Tryd.underlying40 rfl (cells40 HGL.out)⟩) hH ?_
      simp only [Act.put, List.setIfInBounds_toArray, List.set_cons_zero, List.set_cons_succ]
      have M1 : Kp (Blk w14.drew F RZ26) := ⟨HF.out.1⟩
      have M2 : Kp (Row w14.drew (F + 1) 40 .u8 (fill 16 [])) := ⟨HF.out.2.1⟩
      clear HF HKB HJR HOW
      generalize w14.drew = w15 at *
      refine wpAnyH_ready (rs := [2]) (by kernel_rfl) (by simp) ?_
      refine AllReadyH.cons (o := { dst := none, op := Go.Op.store 26 (Go.Operand.tmp 2) (Go.Operand.tmp 62), type := 0, pos := "ref.go:88", after := #[{ on := 0, ground := Go.Ground.data }, { on := 0, ground := Go.Ground.phase }, { on := 1, ground := Go.Ground.textOnly Go.Departure.lateStores }], guard := none }) rfl (fun KK hK => ?_) AllReadyH.nil
      rw [if_pos (by rfl)]
      refine wp_store_mid 26 (.tmp 2) (.tmp 62) rfl F 0 #[.int .i64 n2, .int .i64 n3, .int .u64 n4, .int .u64 n5, .int .i64 n6, .slice a7 (tBody B).length c7] ?hx ?hy (there6 M1.out) info26s (six_one _ _ _ _ _ _ _ _) ?_
      case hx => rfl
      case hy => rfl
      have HT2 := Kp.mk (HTU w15 M1.out)
      have N2 := Kp.mk (HT2.out.keep M2.out (by omega))
      have N1 := Kp.mk HT2.out.blk
      refine hK.out _ _ ⟨HT2.out.keep hH.1 (by have := HX.out; omega), HT2.out.keep hH.2.1 (by have := HX.out; omega), hH.2.2.1.trans (HT2.out.below (Nat.le_refl _) (by have := M1.out.lt; omega)), ownsRow_turn hH.2.2.2 HT2.out HX.out.2.2.1⟩ (fun hH2 => ?_)
      clear hK KK hH HT2 M1 M2
      try simp only [Act.put, List.setIfInBounds_toArray, List.set_cons_zero, List.set_cons_succ]
      refine wpAnyH_ready (rs := [3]) (by kernel_rfl) (by simp) ?_
      refine AllReadyH.cons (o := { dst := none, op := Go.Op.store 40 (Go.Operand.tmp 3) (Go.Operand.tmp 63), type := 0, pos := "ref.go:88", after := #[{ on := 1, ground := Go.Ground.data }, { on := 2, ground := Go.Ground.chain }, { on := 0, ground := Go.Ground.phase }, { on := 1, ground := Go.Ground.phase }, { on := 2, ground := Go.Ground.phase }], guard := none }) rfl (fun KK hK => ?_) AllReadyH.nil
      rw [if_pos (by rfl)]
      refine wp_store_row 40 (.tmp 3) (.tmp 63) rfl (F + 1) (kv .u8 G).toArray rfl rfl 40 _ N2.out (cells40 HGL.out) (size40 HGL.out) (kv_all _ _) ?_
      have HT3 := Kp.mk (Turn.ofRow N2.out (kv .u8 G).toArray)
      have P1 := Kp.mk (HT3.out.keep N1.out (by omega))
      have P2 : Kp (Row _ (F + 1) 40 .u8 G) := ⟨HT3.out.blk⟩
      refine hK.out _ _ ⟨HT3.out.keep hH2.1 (by have := HX.out; omega), HT3.out.keep hH2.2.1 (by have := HX.out; omega), hH2.2.2.1.trans (HT3.out.below (by omega) (by have := N1.out.lt; omega)), ownsRow_turn hH2.2.2.2 HT3.out HX.out.2.2.2⟩ (fun hH => ?_)
      clear hK KK hH2 HT3 N1 N2
      try simp only [Act.put, List.setIfInBounds_toArray, List.set_cons_zero, List.set_cons_succ]
      refine wpAnyH_take (i := 4) (oi := { dst := some 4, op := Go.Op.assign (Go.Operand.const (Go.Value.int Go.IntKind.i64 0)), type := 3, pos := "ref.go:88", after := #[{ on := 3, ground := Go.Ground.chain }, { on := 0, ground := Go.Ground.phase }, { on := 1, ground := Go.Ground.phase }, { on := 2, ground := Go.Ground.phase }, { on := 3, ground := Go.Ground.phase }], guard := none }) (v := .int .i64 0) rfl (by kernel_rfl) (by kernel_rfl) (by kernel_rfl) (fun _ _ _ h => h) (Or.inl ⟨by rfl, fun w hS => by first | rfl | go_simp⟩) hH ?_
      simp only [Act.put, List.setIfInBounds_toArray, List.set_cons_zero, List.set_cons_succ]
      have HZ' := Kp.mk (And.intro P1.out (And.intro P2.out (And.intro hH.2.2.2 hH.2.2.1)))
      clear hH P1 P2
      refine wpAnyH_done (by kernel_rfl) ?_ _
      refine ex_world (fun W => Blk W F (.cells #[.int .i64 n2, .int .i64 n3, .int .u64 n4, .int .u64 n5, .int .i64 n6, .slice a7 (tBody B).length c7] 26) ∧ Row W (F + 1) 40 .u8 G ∧ W.ownsRow W6.heap.size 5 1 (.slice a7 (tBody B).length c7) (tBody B).length (bv (tBody B)) ∧ Below F w W) HZ'.out ?_
      clear HZ'
      intro wz hz
      have HZ := Kp.mk hz
      clear hz
      go_wp2_with fail
      exact bodyPost_ret (results_three rfl _ _ F (F + 1) 26 40 _ _ _ _ (.int .i64 0) rfl rfl rfl HZ.out.1 HZ.out.2.1 Tryd.underlying26 rfl info26s Tryd.underlying40 rfl (cells40 HGL.out)) rfl ⟨a7, c7, by unfold xF xX xT; rw [if_pos HGE0.out, if_pos HGE0.out, if_pos HGE0.out, if_pos HGE0.out, if_pos HGE0.out, if_pos HGE0.out, HGE0.out, ← HGE.out, HN2.out, HN3.out, HN4.out, HN5.out, HN6.out], by unfold xT; rw [if_pos HGE0.out]; exact HoldsB.ofRow HPB.out HZ.out.2.2.1, by rw [← HFe.out]; exact HZ.out.2.2.2⟩
    | false =>
      have HGE0 : Kp (tErr B = 10) := ⟨by unfold tErr; rw [if_neg (by simp [HE0.out]), if_neg (by rw [hrr]; decide)]⟩
      clear hrr
      go_wp2_with fail
      have HTU := fun (W : World) (h : Blk W F RZ26) => turn6 h (.int .i64 0) (.int .i64 0) (.int .u64 0) (.int .u64 0) (.int .i64 0) (.slice none 0 0)
      refine wp_region_held_drew (S := (fun W => Blk W K (.cells #[.int .i64 n2, .int .i64 n3, .int .u64 n4, .int .u64 n5, .int .i64 n6, .slice a7 (tBody B).length c7] 26) ∧ Row W J 40 .u8 G ∧ Below F w W ∧ W.ownsRow W6.heap.size 5 1 (.slice a7 (tBody B).length c7) (tBody B).length (bv (tBody B)))) (by kernel_rfl) ⟨HKB.out.draw, HJR.out, Below.drew HF.out.2.2, HOW.out⟩ (fun hH => ?_)
      refine wpAnyH_take (i := 0) (oi := { dst := some 60, op := Go.Op.build 26 #[], type := 26, pos := "ref.go:86", after := #[], guard := none }) (v := .agg #[.int .i64 0, .int .i64 0, .int .u64 0, .int .u64 0, .int .i64 0, .slice none 0 0]) rfl (by kernel_rfl) (by kernel_rfl) (by kernel_rfl) (fun _ _ _ h => h) (Or.inl ⟨by rfl, fun w hS => exec_build26z rfl⟩) hH ?_
      simp only [Act.put, List.setIfInBounds_toArray, List.set_cons_zero, List.set_cons_succ]
      refine wpAnyH_take (i := 1) (oi := { dst := some 61, op := Go.Op.load 40 (Go.Operand.tmp 8), type := 40, pos := "ref.go:86", after := #[{ on := 2, ground := Go.Ground.gcOnly Go.Departure.lateStores }], guard := none }) (v := dgV G) rfl (by kernel_rfl) (by kernel_rfl) (by kernel_rfl) (fun _ _ _ h => h) (Or.inl ⟨by rfl, fun w hS => exec_load_row (x := .tmp 8) (g := J) (t := 40) (cs := (kv .u8 G).toArray) (fr := (0, 0)) rfl (by rfl) hS.2.1 Tryd.underlying40 rfl (cells40 HGL.out)⟩) hH ?_
      simp only [Act.put, List.setIfInBounds_toArray, List.set_cons_zero, List.set_cons_succ]
      have M1 : Kp (Blk w14.drew F RZ26) := ⟨HF.out.1⟩
      have M2 : Kp (Row w14.drew (F + 1) 40 .u8 (fill 16 [])) := ⟨HF.out.2.1⟩
      clear HF HKB HJR HOW
      generalize w14.drew = w15 at *
      refine wpAnyH_ready (rs := [2]) (by kernel_rfl) (by simp) ?_
      refine AllReadyH.cons (o := { dst := none, op := Go.Op.store 26 (Go.Operand.tmp 2) (Go.Operand.tmp 60), type := 0, pos := "ref.go:86", after := #[{ on := 0, ground := Go.Ground.data }, { on := 0, ground := Go.Ground.phase }, { on := 1, ground := Go.Ground.textOnly Go.Departure.lateStores }], guard := none }) rfl (fun KK hK => ?_) AllReadyH.nil
      rw [if_pos (by rfl)]
      refine wp_store_mid 26 (.tmp 2) (.tmp 60) rfl F 0 #[.int .i64 0, .int .i64 0, .int .u64 0, .int .u64 0, .int .i64 0, .slice none 0 0] ?hx ?hy (there6 M1.out) info26s (six_one _ _ _ _ _ _ _ _) ?_
      case hx => rfl
      case hy => rfl
      have HT2 := Kp.mk (HTU w15 M1.out)
      have N2 := Kp.mk (HT2.out.keep M2.out (by omega))
      have N1 := Kp.mk HT2.out.blk
      refine hK.out _ _ ⟨HT2.out.keep hH.1 (by have := HX.out; omega), HT2.out.keep hH.2.1 (by have := HX.out; omega), hH.2.2.1.trans (HT2.out.below (Nat.le_refl _) (by have := M1.out.lt; omega)), ownsRow_turn hH.2.2.2 HT2.out HX.out.2.2.1⟩ (fun hH2 => ?_)
      clear hK KK hH HT2 M1 M2
      try simp only [Act.put, List.setIfInBounds_toArray, List.set_cons_zero, List.set_cons_succ]
      refine wpAnyH_ready (rs := [3]) (by kernel_rfl) (by simp) ?_
      refine AllReadyH.cons (o := { dst := none, op := Go.Op.store 40 (Go.Operand.tmp 3) (Go.Operand.tmp 61), type := 0, pos := "ref.go:86", after := #[{ on := 1, ground := Go.Ground.data }, { on := 2, ground := Go.Ground.chain }, { on := 0, ground := Go.Ground.phase }, { on := 1, ground := Go.Ground.phase }, { on := 2, ground := Go.Ground.phase }], guard := none }) rfl (fun KK hK => ?_) AllReadyH.nil
      rw [if_pos (by rfl)]
      refine wp_store_row 40 (.tmp 3) (.tmp 61) rfl (F + 1) (kv .u8 G).toArray rfl rfl 40 _ N2.out (cells40 HGL.out) (size40 HGL.out) (kv_all _ _) ?_
      have HT3 := Kp.mk (Turn.ofRow N2.out (kv .u8 G).toArray)
      have P1 := Kp.mk (HT3.out.keep N1.out (by omega))
      have P2 : Kp (Row _ (F + 1) 40 .u8 G) := ⟨HT3.out.blk⟩
      refine hK.out _ _ ⟨HT3.out.keep hH2.1 (by have := HX.out; omega), HT3.out.keep hH2.2.1 (by have := HX.out; omega), hH2.2.2.1.trans (HT3.out.below (by omega) (by have := N1.out.lt; omega)), ownsRow_turn hH2.2.2.2 HT3.out HX.out.2.2.2⟩ (fun hH => ?_)
      clear hK KK hH2 HT3 N1 N2
      try simp only [Act.put, List.setIfInBounds_toArray, List.set_cons_zero, List.set_cons_succ]
      refine wpAnyH_take (i := 4) (oi := { dst := some 4, op := Go.Op.assign (Go.Operand.const (Go.Value.int Go.IntKind.i64 10)), type := 3, pos := "ref.go:86", after := #[{ on := 3, ground := Go.Ground.chain }, { on := 0, ground := Go.Ground.phase }, { on := 1, ground := Go.Ground.phase }, { on := 2, ground := Go.Ground.phase }, { on := 3, ground := Go.Ground.phase }], guard := none }) (v := .int .i64 10) rfl (by kernel_rfl) (by kernel_rfl) (by kernel_rfl) (fun _ _ _ h => h) (Or.inl ⟨by rfl, fun w hS => by first | rfl | go_simp⟩) hH ?_
      simp only [Act.put, List.setIfInBounds_toArray, List.set_cons_zero, List.set_cons_succ]
      have HZ' := Kp.mk (And.intro P1.out (And.intro P2.out (And.intro hH.2.2.2 hH.2.2.1)))
      clear hH P1 P2
      refine wpAnyH_done (by kernel_rfl) ?_ _
      refine ex_world (fun W => Blk W F (.cells #[.int .i64 0, .int .i64 0, .int .u64 0, .int .u64 0, .int .i64 0, .slice none 0 0] 26) ∧ Row W (F + 1) 40 .u8 G ∧ W.ownsRow W6.heap.size 5 1 (.slice a7 (tBody B).length c7) (tBody B).length (bv (tBody B)) ∧ Below F w W) HZ'.out ?_
      clear HZ'
      intro wz hz
      have HZ := Kp.mk hz
      clear hz
      go_wp2_with fail
      exact bodyPost_ret (results_three rfl _ _ F (F + 1) 26 40 _ _ _ _ (.int .i64 10) rfl rfl rfl HZ.out.1 HZ.out.2.1 Tryd.underlying26 rfl info26s Tryd.underlying40 rfl (cells40 HGL.out)) rfl ⟨none, 0, rzero_post HGE0.out (by decide) HGE.out, by unfold xT; rw [if_neg (by rw [HGE0.out]; decide)]; exact HoldsB.nil _ _, by rw [← HFe.out]; exact HZ.out.2.2.2⟩
  · have HGE0 : Kp (tErr B = tEnd B) := ⟨by unfold tErr; rw [if_pos he]⟩
    have HNE := Kp.mk he
    have hk1 : (tEnd B == 0) = false := by simpa using he
    have hk2 : (tEnd B != 0) = true := by simpa using he
    clear he
    generalize tEnd B = E at *
    go_wp2_with fail
    have HTU := fun (W : World) (h : Blk W F RZ26) => turn6 h (.int .i64 0) (.int .i64 0) (.int .u64 0) (.int .u64 0) (.int .i64 0) (.slice none 0 0)
    refine wp_region_held_drew (S := (fun W => Blk W K (.cells #[.int .i64 n2, .int .i64 n3, .int .u64 n4, .int .u64 n5, .int .i64 n6, .slice a7 (tBody B).length c7] 26) ∧ Row W J 40 .u8 G ∧ Below F w W ∧ W.ownsRow W6.heap.size 5 1 (.slice a7 (tBody B).length c7) (tBody B).length (bv (tBody B)))) (by kernel_rfl) ⟨HKB.out.draw, HJR.out, Below.drew HF.out.2.2, HOW.out⟩ (fun hH => ?_)
    refine wpAnyH_take (i := 0) (oi := { dst := some 54, op := Go.Op.build 26 #[], type := 26, pos := "ref.go:83", after := #[], guard := none }) (v := .agg #[.int .i64 0, .int .i64 0, .int .u64 0, .int .u64 0, .int .i64 0, .slice none 0 0]) rfl (by kernel_rfl) (by kernel_rfl) (by kernel_rfl) (fun _ _ _ h => h) (Or.inl ⟨by rfl, fun w hS => exec_build26z rfl⟩) hH ?_
    simp only [Act.put, List.setIfInBounds_toArray, List.set_cons_zero, List.set_cons_succ]
    refine wpAnyH_take (i := 1) (oi := { dst := some 55, op := Go.Op.load 40 (Go.Operand.tmp 8), type := 40, pos := "ref.go:83", after := #[{ on := 3, ground := Go.Ground.gcOnly Go.Departure.lateStores }], guard := none }) (v := dgV G) rfl (by kernel_rfl) (by kernel_rfl) (by kernel_rfl) (fun _ _ _ h => h) (Or.inl ⟨by rfl, fun w hS => exec_load_row (x := .tmp 8) (g := J) (t := 40) (cs := (kv .u8 G).toArray) (fr := (0, 0)) rfl (by rfl) hS.2.1 Tryd.underlying40 rfl (cells40 HGL.out)⟩) hH ?_
    simp only [Act.put, List.setIfInBounds_toArray, List.set_cons_zero, List.set_cons_succ]
    refine wpAnyH_take (i := 2) (oi := { dst := some 56, op := Go.Op.move (Go.Operand.tmp 9), type := 3, pos := "ref.go:83", after := #[{ on := 4, ground := Go.Ground.gcOnly Go.Departure.lateStores }], guard := none }) (v := .int .i64 E) rfl (by kernel_rfl) (by kernel_rfl) (by kernel_rfl) (fun _ _ _ h => h) (Or.inl ⟨by rfl, fun w hS => by first | rfl | go_simp⟩) hH ?_
    simp only [Act.put, List.setIfInBounds_toArray, List.set_cons_zero, List.set_cons_succ]
    have M1 : Kp (Blk w13.drew F RZ26) := ⟨HF.out.1⟩
    have M2 : Kp (Row w13.drew (F + 1) 40 .u8 (fill 16 [])) := ⟨HF.out.2.1⟩
    clear HF HKB HJR HOW
    generalize w13.drew = w15 at *
    refine wpAnyH_ready (rs := [3]) (by kernel_rfl) (by simp) ?_
    refine AllReadyH.cons (o := { dst := none, op := Go.Op.store 26 (Go.Operand.tmp 2) (Go.Operand.tmp 54), type := 0, pos := "ref.go:83", after := #[{ on := 0, ground := Go.Ground.data }, { on := 0, ground := Go.Ground.phase }, { on := 1, ground := Go.Ground.textOnly Go.Departure.lateStores }, { on := 2, ground := Go.Ground.textOnly Go.Departure.lateStores }], guard := none }) rfl (fun KK hK => ?_) AllReadyH.nil
    rw [if_pos (by rfl)]
    refine wp_store_mid 26 (.tmp 2) (.tmp 54) rfl F 0 #[.int .i64 0, .int .i64 0, .int .u64 0, .int .u64 0, .int .i64 0, .slice none 0 0] ?hx ?hy (there6 M1.out) info26s (six_one _ _ _ _ _ _ _ _) ?_
    case hx => rfl
    case hy => rfl
    have HT2 := Kp.mk (HTU w15 M1.out)
    have N2 := Kp.mk (HT2.out.keep M2.out (by omega))
    have N1 := Kp.mk HT2.out.blk
    refine hK.out _ _ ⟨HT2.out.keep hH.1 (by have := HX.out; omega), HT2.out.keep hH.2.1 (by have := HX.out; omega), hH.2.2.1.trans (HT2.out.below (Nat.le_refl _) (by have := M1.out.lt; omega)), ownsRow_turn hH.2.2.2 HT2.out HX.out.2.2.1⟩ (fun hH2 => ?_)
    clear hK KK hH HT2 M1 M2
    try simp only [Act.put, List.setIfInBounds_toArray, List.set_cons_zero, List.set_cons_succ]
    refine wpAnyH_ready (rs := [4]) (by kernel_rfl) (by simp) ?_
    refine AllReadyH.cons (o := { dst := none, op := Go.Op.store 40 (Go.Operand.tmp 3) (Go.Operand.tmp 55), type := 0, pos := "ref.go:83", after := #[{ on := 1, ground := Go.Ground.data }, { on := 3, ground := Go.Ground.chain }, { on := 0, ground := Go.Ground.phase }, { on := 1, ground := Go.Ground.phase }, { on := 2, ground := Go.Ground.textOnly Go.Departure.lateStores }, { on := 3, ground := Go.Ground.phase }], guard := none }) rfl (fun KK hK => ?_) AllReadyH.nil
    rw [if_pos (by rfl)]
    refine wp_store_row 40 (.tmp 3) (.tmp 55) rfl (F + 1) (kv .u8 G).toArray rfl rfl 40 _ N2.out (cells40 HGL.out) (size40 HGL.out) (kv_all _ _) ?_
    have HT3 := Kp.mk (Turn.ofRow N2.out (kv .u8 G).toArray)
    have P1 := Kp.mk (HT3.out.keep N1.out (by omega))
    have P2 : Kp (Row _ (F + 1) 40 .u8 G) := ⟨HT3.out.blk⟩
    refine hK.out _ _ ⟨HT3.out.keep hH2.1 (by have := HX.out; omega), HT3.out.keep hH2.2.1 (by have := HX.out; omega), hH2.2.2.1.trans (HT3.out.below (by omega) (by have := N1.out.lt; omega)), ownsRow_turn hH2.2.2.2 HT3.out HX.out.2.2.2⟩ (fun hH => ?_)
    clear hK KK hH2 HT3 N1 N2
    try simp only [Act.put, List.setIfInBounds_toArray, List.set_cons_zero, List.set_cons_succ]
    refine wpAnyH_take (i := 5) (oi := { dst := some 4, op := Go.Op.assign (Go.Operand.tmp 56), type := 3, pos := "ref.go:83", after := #[{ on := 2, ground := Go.Ground.data }, { on := 4, ground := Go.Ground.chain }, { on := 0, ground := Go.Ground.phase }, { on := 1, ground := Go.Ground.phase }, { on := 2, ground := Go.Ground.phase }, { on := 3, ground := Go.Ground.phase }, { on := 4, ground := Go.Ground.phase }], guard := none }) (v := .int .i64 E) rfl (by kernel_rfl) (by kernel_rfl) (by kernel_rfl) (fun _ _ _ h => h) (Or.inl ⟨by rfl, fun w hS => by first | rfl | go_simp⟩) hH ?_
    simp only [Act.put, List.setIfInBounds_toArray, List.set_cons_zero, List.set_cons_succ]
    have HZ' := Kp.mk (And.intro P1.out (And.intro P2.out (And.intro hH.2.2.2 hH.2.2.1)))
    clear hH P1 P2
    refine wpAnyH_done (by kernel_rfl) ?_ _
    refine ex_world (fun W => Blk W F (.cells #[.int .i64 0, .int .i64 0, .int .u64 0, .int .u64 0, .int .i64 0, .slice none 0 0] 26) ∧ Row W (F + 1) 40 .u8 G ∧ W.ownsRow W6.heap.size 5 1 (.slice a7 (tBody B).length c7) (tBody B).length (bv (tBody B)) ∧ Below F w W) HZ'.out ?_
    clear HZ'
    intro wz hz
    have HZ := Kp.mk hz
    clear hz
    go_wp2_with fail
    exact bodyPost_ret (results_three rfl _ _ F (F + 1) 26 40 _ _ _ _ (.int .i64 E) rfl rfl rfl HZ.out.1 HZ.out.2.1 Tryd.underlying26 rfl info26s Tryd.underlying40 rfl (cells40 HGL.out)) rfl ⟨none, 0, rzero_post HGE0.out HNE.out HGE.out, by unfold xT; rw [if_neg (by rw [HGE0.out]; exact HNE.out)]; exact HoldsB.nil _ _, by rw [← HFe.out]; exact HZ.out.2.2.2⟩
end Go.Proofs.YtgabjmmmiogfjaaDoor
