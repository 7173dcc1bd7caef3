/-
  frame.taken, where the version is right.
-/
import Derived.Test.YtgabjmmmiogfjaaDoorFrJ
namespace Go.Proofs.YtgabjmmmiogfjaaDoor
open Go.RowKit

theorem ex_world {Q : Exit → Act → World → Prop} {x : Exit} {a : Act} {w : World} (F : World → Prop) (hF : F w) (h : ∀ w2, F w2 → Q x a w2) : Q x a w := h w hF
theorem zero_post {B : List Int} {E : Int} (h : tErr B = E) (hne : E ≠ 0) : Ending.returned (.tuple #[.agg #[.int .i64 0, .int .i64 0, .int .u64 0, .int .u64 0, .int .i64 0, .slice none 0 0], .agg (kv .u8 (fill 16 [])).toArray, .int .i64 E]) = .returned (.tuple #[(xF B none 0).v, dgV (xG B), .int .i64 (tErr B)]) := by
  have hn : ¬ tErr B = 0 := by rw [h]; exact hne
  unfold xF xG xX xT
  rw [if_neg hn, if_neg hn, if_neg hn, if_neg hn, if_neg hn, if_neg hn, if_neg hn, h]
  rfl
set_option maxRecDepth 100000 in
set_option maxHeartbeats 8000000 in
theorem taken_one (M : Nat) (v : Value) (B : List Int) (w : World) (h : HoldsB w M v B) (hr : B.length ≤ 140737488351232) (hv : tV B = 1) : Calls Tryd.prog 41 #[v] w (TakenPost B w) := by
  have HBB := Kp.mk h.bytes
  have H := Kp.mk h
  have HL := Kp.mk hr
  obtain ⟨va, vn, vc, rfl, -⟩ := h.slice
  obtain ⟨F, hF⟩ : ∃ F, F = w.heap.size := ⟨_, rfl⟩
  have HFe := Kp.mk hF
  clear h hr hF
  go_enter Tryd.func41, Tryd.ntmps41
  go_wp2_with (refine wpList_alloc_row rfl 83 rfl _ _ infoz83 ?_; rw [show (w.alloc RZ).heap.size = F + 1 by rw [HFe.out]; simp, ← HFe.out]; refine wpl_world (w := (w.alloc RZ).alloc (.cells (kv .u8 (fill 16 [])).toArray 83)) (fun w4 => Blk w4 F RZ ∧ Row w4 (F + 1) 83 .u8 (fill 16 []) ∧ Below F w w4 ∧ HoldsB w4 M (.slice va vn vc) B ∧ F + 2 = w4.heap.size) ⟨(Blk.newAt _ HFe.out).old _, Blk.newAt _ (by rw [HFe.out]; simp), by rw [HFe.out]; exact more (more (Below.refl _ _) _) _, (H.out.alloc _).alloc _, by rw [HFe.out]; simp⟩ ?_; rintro w4 ⟨k1, k2, k3, k4, k5⟩; have H1 := Kp.mk k1; have H2 := Kp.mk k2; have H3 := Kp.mk k3; have H4 := Kp.mk k4; have H5 := Kp.mk k5; clear k1 k2 k3 k4 k5)
  refine (takeI_any M _ B _ H4.out HL.out).mono ?_
  rintro r w1 ⟨I, rfl, hI, hi, hb⟩
  have S0 : Kp (GSt w F I B 0 w1) := ⟨⟨hi, H1.out.keep hb, H2.out.keep hb, H3.out.trans (hb.mono (by have := H5.out; omega)), by have := H5.out; omega⟩⟩
  have R0 : Kp (Rel B 0 B 0) := ⟨⟨fun _ => rfl, fun h => absurd rfl h⟩⟩
  clear hI hi hb H1 H2 H3 H4 H5
  go_wp2_with fail
  refine (u8_any I I B 0 w1 S0.out.i).mono ?_
  rintro r w2 ⟨rfl, s1⟩
  obtain ⟨q1, q2, q3⟩ := R0.out.next 1
  rw [q1, show numOf (rawP B 0 0 1) = tV B from rfl]
  rw [q2, show rawE B 0 0 1 = tE0 B from rfl] at s1
  rw [show rawE B 0 0 1 = tE0 B from rfl, show rawA B 0 0 1 = tA1 B from rfl] at q3
  have S1 := Kp.mk (S0.out.step s1)
  have R1 := Kp.mk q3
  clear s1 q1 q2 q3 R0 S0
  generalize nextL B 0 1 = l0 at *
  have hve : tE1 B = tE0 B := by unfold tE1; rw [if_pos hv]
  rw [← hve] at S1 R1
  have SV := S1
  have RV := R1
  rw [hv]
  clear hve hv S1 R1
  obtain ⟨l1, hl1⟩ : ∃ l1, l1 = l0 := ⟨_, rfl⟩
  rw [← hl1] at SV RV
  clear hl1
  go_wp2_with fail
  refine (u8_any I I l1 _ _ SV.out.i).mono ?_
  rintro r w4 ⟨rfl, s1⟩
  obtain ⟨q1, q2, q3⟩ := RV.out.next 1
  rw [q1, show numOf (rawP B (tA1 B) (tE1 B) 1) = tFr B from rfl]
  rw [q2, show rawE B (tA1 B) (tE1 B) 1 = tE2 B from rfl] at s1
  rw [show rawE B (tA1 B) (tE1 B) 1 = tE2 B from rfl, show rawA B (tA1 B) (tE1 B) 1 = tA2 B from rfl] at q3
  have S2 := Kp.mk (SV.out.step s1)
  have R2 := Kp.mk q3
  have B2 : 0 ≤ tFr B ∧ tFr B ≤ 255 := one_lt HBB.out _ _
  clear s1 q1 q2 q3
  obtain ⟨n2, hn2⟩ : ∃ n2, n2 = tFr B := ⟨_, rfl⟩
  have HN2 := Kp.mk hn2
  rw [← hn2] at B2 ⊢
  clear hn2
  have k2 : IntKind.i64.wrap n2 = n2 := IntWalk.i64_in _ (by omega)
  generalize nextL l1 (tE1 B) 1 = l2 at *
  clear RV SV
  go_wp2_with fail
  refine (u8_any I I l2 _ _ S2.out.i).mono ?_
  rintro r w5 ⟨rfl, s1⟩
  obtain ⟨q1, q2, q3⟩ := R2.out.next 1
  rw [q1, show numOf (rawP B (tA2 B) (tE2 B) 1) = tTo B from rfl]
  rw [q2, show rawE B (tA2 B) (tE2 B) 1 = tE3 B from rfl] at s1
  rw [show rawE B (tA2 B) (tE2 B) 1 = tE3 B from rfl, show rawA B (tA2 B) (tE2 B) 1 = tA3 B from rfl] at q3
  have S3 := Kp.mk (S2.out.step s1)
  have R3 := Kp.mk q3
  have B3 : 0 ≤ tTo B ∧ tTo B ≤ 255 := one_lt HBB.out _ _
  clear s1 q1 q2 q3
  obtain ⟨n3, hn3⟩ : ∃ n3, n3 = tTo B := ⟨_, rfl⟩
  have HN3 := Kp.mk hn3
  rw [← hn3] at B3 ⊢
  clear hn3
  have k3 : IntKind.i64.wrap n3 = n3 := IntWalk.i64_in _ (by omega)
  generalize nextL l2 (tE2 B) 1 = l3 at *
  clear R2 S2
  go_wp2_with fail
  obtain ⟨K, hK⟩ : ∃ K, K = w5.heap.size := ⟨_, rfl⟩
  have SK : Kp (KSt w F I K l3 (tE3 B) #[.int .i64 n2, .int .i64 n3, .int .u64 0, .int .u64 0, .int .i64 0, .slice none 0 0] (w5.alloc (.cells #[.int .i64 n2, .int .i64 n3, .int .u64 0, .int .u64 0, .int .i64 0, .slice none 0 0] 30))) := ⟨⟨S3.out.more (more (Below.refl _ _) _), Blk.newAt _ hK, by rw [hK]; exact S3.out.i.lt'⟩⟩
  rw [← hK]
  clear hK S3
  generalize w5.alloc (.cells #[.int .i64 n2, .int .i64 n3, .int .u64 0, .int .u64 0, .int .i64 0, .slice none 0 0] 30) = W5 at *
  refine (u64_any I I l3 _ _ SK.out.g.i).mono ?_
  rintro r w6 ⟨rfl, s1⟩
  obtain ⟨q1, q2, q3⟩ := R3.out.next 8
  rw [q1, show numOf (rawP B (tA3 B) (tE3 B) 8) = tBo B from rfl]
  rw [q2, show rawE B (tA3 B) (tE3 B) 8 = tE4 B from rfl] at s1
  rw [show rawE B (tA3 B) (tE3 B) 8 = tE4 B from rfl, show rawA B (tA3 B) (tE3 B) 8 = tA4 B from rfl] at q3
  have S4 := Kp.mk (SK.out.step s1)
  have R4 := Kp.mk q3
  have B4 : 0 ≤ tBo B ∧ tBo B < 18446744073709551616 := big_lt HBB.out _ _
  clear s1 q1 q2 q3
  obtain ⟨n4, hn4⟩ : ∃ n4, n4 = tBo B := ⟨_, rfl⟩
  have HN4 := Kp.mk hn4
  rw [← hn4] at B4 ⊢
  clear hn4
  generalize nextL l3 (tE3 B) 8 = l4 at *
  clear R3 SK
  go_wp2_with fail
  refine (u64_any I I l4 _ _ S4.out.g.i).mono ?_
  rintro r w7 ⟨rfl, s1⟩
  obtain ⟨q1, q2, q3⟩ := R4.out.next 8
  rw [q1, show numOf (rawP B (tA4 B) (tE4 B) 8) = tCo B from rfl]
  rw [q2, show rawE B (tA4 B) (tE4 B) 8 = tE5 B from rfl] at s1
  rw [show rawE B (tA4 B) (tE4 B) 8 = tE5 B from rfl, show rawA B (tA4 B) (tE4 B) 8 = tA5 B from rfl] at q3
  have S5 := Kp.mk (S4.out.step s1)
  have R5 := Kp.mk q3
  have B5 : 0 ≤ tCo B ∧ tCo B < 18446744073709551616 := big_lt HBB.out _ _
  clear s1 q1 q2 q3
  obtain ⟨n5, hn5⟩ : ∃ n5, n5 = tCo B := ⟨_, rfl⟩
  have HN5 := Kp.mk hn5
  rw [← hn5] at B5 ⊢
  clear hn5
  generalize nextL l4 (tE4 B) 8 = l5 at *
  clear R4 S4
  have c2 := S5.out.k.cell 2
  have f2 := S5.out.k.frozen 2
  have c3 := S5.out.k.cell 3
  have f3 := S5.out.k.frozen 3
  go_wp2_with fail
  have T5 : Kp (KSt w F I K l5 (tE5 B) #[.int .i64 n2, .int .i64 n3, .int .u64 n4, .int .u64 n5, .int .i64 0, .slice none 0 0] ((w7.setCell ⟨K, 2, none⟩ (.int .u64 n4)).setCell ⟨K, 3, none⟩ (.int .u64 n5))) := ⟨(S5.out.put 2 _).put 3 _⟩
  clear c2 f2 c3 f3 S5
  generalize (w7.setCell ⟨K, 2, none⟩ (.int .u64 n4)).setCell ⟨K, 3, none⟩ (.int .u64 n5) = W7 at *
  refine (u8_any I I l5 _ _ T5.out.g.i).mono ?_
  rintro r w8 ⟨rfl, s1⟩
  obtain ⟨q1, q2, q3⟩ := R5.out.next 1
  rw [q1, show numOf (rawP B (tA5 B) (tE5 B) 1) = tKi B from rfl]
  rw [q2, show rawE B (tA5 B) (tE5 B) 1 = tE6 B from rfl] at s1
  rw [show rawE B (tA5 B) (tE5 B) 1 = tE6 B from rfl, show rawA B (tA5 B) (tE5 B) 1 = tA6 B from rfl] at q3
  have S6 := Kp.mk (T5.out.step s1)
  have R6 := Kp.mk q3
  have B6 : 0 ≤ tKi B ∧ tKi B ≤ 255 := one_lt HBB.out _ _
  clear s1 q1 q2 q3
  obtain ⟨n6, hn6⟩ : ∃ n6, n6 = tKi B := ⟨_, rfl⟩
  have HN6 := Kp.mk hn6
  rw [← hn6] at B6 ⊢
  clear hn6
  have k6 : IntKind.i64.wrap n6 = n6 := IntWalk.i64_in _ (by omega)
  generalize nextL l5 (tE5 B) 1 = l6 at *
  clear R5 T5
  have HBL : Kp (Bytes l6) := ⟨by
    obtain ⟨_, ⟨u, hu, _⟩, _⟩ := S6.out.g.i
    exact hu.bytes⟩
  go_wp2_with fail
  refine (blob_any I I l6 _ 4096 w8 S6.out.g.i (by decide) (by decide)).mono ?_
  rintro r w9 ⟨v7, rfl, ⟨hy, ho⟩, s1⟩
  obtain ⟨q1, q2, q3⟩ := R6.out.blob HBL.out HBB.out 4096
  rw [q1, show rblobP B (tA6 B) (tE6 B) 4096 = tBody B from rfl] at ho hy
  rw [q2, show rblobE B (tA6 B) (tE6 B) 4096 = tE7 B from rfl] at s1
  rw [show rblobE B (tA6 B) (tE6 B) 4096 = tE7 B from rfl, show rblobA B (tA6 B) (tE6 B) 4096 = tA7 B from rfl] at q3
  have S7 := Kp.mk (S6.out.step s1)
  have R7 := Kp.mk q3
  have HK8 : Kp (K < w8.heap.size) := ⟨S6.out.k.lt⟩
  have HPB := Kp.mk hy
  have HO7 := Kp.mk ho
  obtain ⟨a7, m7, c7, rfl⟩ := row_shape ho
  have hm7 : m7 = (tBody B).length := by
    rcases ho.2 with ⟨e, h0⟩ | ⟨g, cap, cur, e, _⟩
    · simp only [Value.slice.injEq] at e; omega
    · simp only [Value.slice.injEq] at e; omega
  subst hm7
  clear s1 q1 q2 q3 R6 S6 ho hy HBL
  generalize blobL l6 (tE6 B) 4096 = l7 at *
  have c4 := S7.out.k.cell 4
  have f4 := S7.out.k.frozen 4
  have c5 := S7.out.k.cell 5
  have f5 := S7.out.k.frozen 5
  go_wp2_with fail
  have T7 : Kp (KSt w F I K l7 (tE7 B) #[.int .i64 n2, .int .i64 n3, .int .u64 n4, .int .u64 n5, .int .i64 n6, .slice a7 (tBody B).length c7] ((w9.setCell ⟨K, 4, none⟩ (.int .i64 n6)).setCell ⟨K, 5, none⟩ (.slice a7 (tBody B).length c7))) := ⟨(S7.out.put 4 _).put 5 _⟩
  have HO8 : Kp (((w9.setCell ⟨K, 4, none⟩ (.int .i64 n6)).setCell ⟨K, 5, none⟩ (.slice a7 (tBody B).length c7)).ownsRow w8.heap.size 5 1 (.slice a7 (tBody B).length c7) (tBody B).length (bv (tBody B))) := ⟨ownsRow_turn HO7.out (((Turn.same S7.out.k).set 4 _).set 5 _) HK8.out⟩
  clear c4 f4 c5 f5 S7 HO7
  generalize (w9.setCell ⟨K, 4, none⟩ (.int .i64 n6)).setCell ⟨K, 5, none⟩ (.slice a7 (tBody B).length c7) = W9 at *
  refine (isum_any I I l7 _ W9 T7.out.g.i).mono ?_
  rintro r w10 ⟨rfl, s1⟩
  obtain ⟨q1, q2, q3⟩ := R7.out.next 16
  have hsm := R7.out.sum
  rw [hsm, show rsumP B (tA7 B) (tE7 B) = tTag B from rfl]
  rw [q2, show rawE B (tA7 B) (tE7 B) 16 = tE8 B from rfl] at s1
  rw [show rawE B (tA7 B) (tE7 B) 16 = tE8 B from rfl, show rawA B (tA7 B) (tE7 B) 16 = tA8 B from rfl] at q3
  have S8 := Kp.mk (T7.out.step s1)
  have R8 := Kp.mk q3
  obtain ⟨oI, hoI⟩ := s1.turn
  have HO9 : Kp (w10.ownsRow w8.heap.size 5 1 (.slice a7 (tBody B).length c7) (tBody B).length (bv (tBody B))) := ⟨ownsRow_turn HO8.out hoI (by have := HK8.out; have := T7.out.ik; omega)⟩
  clear s1 q1 q2 q3 R7 T7 HO8 hsm hoI
  generalize nextL l7 (tE7 B) 16 = l8 at *
  obtain ⟨G, hG⟩ : ∃ G, G = tTag B := ⟨_, rfl⟩
  have HGE := Kp.mk hG
  have HGL : Kp (G.length = 16) := ⟨by rw [hG]; exact tTag_len B⟩
  rw [← hG, show sumV G = dgV G from rfl]
  clear hG
  obtain ⟨J, hJ⟩ : ∃ J, J = w10.heap.size := ⟨_, rfl⟩
  have HJ := Kp.mk hJ
  have HJI : Kp (I < J ∧ K < J) := ⟨by rw [hJ]; exact ⟨S8.out.g.i.lt', S8.out.k.lt⟩⟩
  have HLT : Kp ((Value.slice a7 (tBody B).length c7).ownBlock ≠ some J) := ⟨fun e => by have := (HO9.out.lt J e).2; omega⟩
  clear hJ
  go_wp2_with (first
    | (refine wpList_alloc_row rfl 83 rfl _ _ infoz83 ?_; rw [← HJ.out]; refine wpl_world (w := w10.alloc (.cells (kv .u8 (fill 16 [])).toArray 83)) (fun W => Row W J 83 .u8 (fill 16 []) ∧ KSt w F I K l8 (tE8 B) #[.int .i64 n2, .int .i64 n3, .int .u64 n4, .int .u64 n5, .int .i64 n6, .slice a7 (tBody B).length c7] W ∧ W.ownsRow w8.heap.size 5 1 (.slice a7 (tBody B).length c7) (tBody B).length (bv (tBody B))) ⟨Blk.newAt _ HJ.out, ⟨S8.out.g.more (more (Below.refl _ _) _), S8.out.k.old _, S8.out.ik⟩, ownsRow_below HO9.out (more (Below.refl _ _) _)⟩ ?_; rintro w11 h1; have H11 := Kp.mk h1; clear h1)
    | (refine wpList_store_row rfl 83 (.tmp 7) (.tmp 37) rfl J (kv .u8 G).toArray rfl rfl 83 _ H11.out.1 (cells83 HGL.out) (size83 HGL.out) (kv_all _ _) ?_; refine wpl_world (w := w11.setRow J (kv .u8 G).toArray) (fun W => Row W J 83 .u8 G ∧ KSt w F I K l8 (tE8 B) #[.int .i64 n2, .int .i64 n3, .int .u64 n4, .int .u64 n5, .int .i64 n6, .slice a7 (tBody B).length c7] W ∧ W.ownsRow w8.heap.size 5 1 (.slice a7 (tBody B).length c7) (tBody B).length (bv (tBody B))) ⟨H11.out.1.setRow G, ⟨H11.out.2.1.g.turn (Turn.ofRow H11.out.1 _) HJI.out.1, (Turn.ofRow H11.out.1 _).keep H11.out.2.1.k (Nat.ne_of_lt HJI.out.2), H11.out.2.1.ik⟩, ownsRow_off H11.out.2.2 (Turn.ofRow H11.out.1 _) HLT.out⟩ ?_; rintro w12 h1; have H12 := Kp.mk h1; clear h1))
  refine (endI_any I I l8 (tE8 B) _ H12.out.2.1.g.i).mono ?_
  rintro r w13 ⟨rfl, l9, s1⟩
  rw [tEnd_is R8.out] at s1 ⊢
  obtain ⟨oI, hoI⟩ := s1.turn
  have S13 : Kp (KSt w F I K l9 (tEnd B) #[.int .i64 n2, .int .i64 n3, .int .u64 n4, .int .u64 n5, .int .i64 n6, .slice a7 (tBody B).length c7] w13) := ⟨H12.out.2.1.step s1⟩
  have J13 : Kp (Row w13 J 83 .u8 G) := ⟨hoI.keep H12.out.1 (Nat.ne_of_gt HJI.out.1)⟩
  have O13 : Kp (w13.ownsRow w8.heap.size 5 1 (.slice a7 (tBody B).length c7) (tBody B).length (bv (tBody B))) := ⟨ownsRow_turn H12.out.2.2 hoI (by have := HK8.out; have := S13.out.ik; omega)⟩
  clear s1 hoI H12 R8 HO9 S8 HLT
  have hb83 := fun w => build83z w
  by_cases he : tEnd B = 0
  · have HE0 := Kp.mk he
    rw [he]
    clear he
    go_wp2_with (refine wpList_load_row rfl 30 (.tmp 6) rfl K rfl 30 #[.int .i64 n2, .int .i64 n3, .int .u64 n4, .int .u64 n5, .int .i64 n6, .slice a7 (tBody B).length c7] (0, 0) _ S13.out.k Tryd.underlying30 rfl info30s ?_)
    refine (right_any ⟨n2, n3, n4, n5, n6, a7, (tBody B).length, c7⟩ w13).mono ?_
    rintro r w14 ⟨rfl, hb⟩
    have hgr : frB ⟨n2, n3, n4, n5, n6, a7, (tBody B).length, c7⟩ = tR B := by rw [HN2.out, HN3.out, HN4.out, HN5.out, HN6.out]; rfl
    rw [hgr]
    have HF : Kp (Blk w14 F RZ ∧ Row w14 (F + 1) 83 .u8 (fill 16 []) ∧ Below F w w14 ∧ F + 1 < K) := ⟨S13.out.g.b.keep hb, S13.out.g.s.keep hb, S13.out.g.below.trans (hb.mono (by have := S13.out.g.b.lt; omega)), by have := S13.out.g.fi; have := S13.out.ik; omega⟩
    have HKB : Kp (Blk w14 K (.cells #[.int .i64 n2, .int .i64 n3, .int .u64 n4, .int .u64 n5, .int .i64 n6, .slice a7 (tBody B).length c7] 30)) := ⟨S13.out.k.keep hb⟩
    have HJR : Kp (Row w14 J 83 .u8 G) := ⟨J13.out.keep hb⟩
    have HOW : Kp (w14.ownsRow w8.heap.size 5 1 (.slice a7 (tBody B).length c7) (tBody B).length (bv (tBody B))) := ⟨ownsRow_below O13.out hb⟩
    clear hb hgr S13 J13 O13
    cases hrr : tR B with
    | true =>
      have HGE0 : Kp (tErr B = 0) := ⟨by unfold tErr; rw [if_neg (by simp [HE0.out]), if_pos hrr]⟩
      clear hrr hb83
      go_wp2_with fail
      have HTH := Kp.mk (there6 HF.out.1)
      have HTU := fun (W : World) (h : Blk W F RZ) => turn6 h (.int .i64 n2) (.int .i64 n3) (.int .u64 n4) (.int .u64 n5) (.int .i64 n6) (.slice a7 (tBody B).length c7)
      have HBB9 : Kp (F < w8.heap.size ∧ F + 1 < w8.heap.size) := ⟨by have := HK8.out; have := HF.out.2.2.2; omega⟩
      have HJ9 : Kp (F + 1 < J) := ⟨by have := HF.out.2.2.2; have := HJI.out.2; omega⟩
      have HFF := Kp.mk HF.out.2.2.2
      refine wp_region_held_drew (S := (fun W => Blk W K (.cells #[.int .i64 n2, .int .i64 n3, .int .u64 n4, .int .u64 n5, .int .i64 n6, .slice a7 (tBody B).length c7] 30) ∧ Row W J 83 .u8 G ∧ (Row W (F + 1) 83 .u8 (fill 16 []) ∨ True) ∧ Below F w W ∧ W.ownsRow w8.heap.size 5 1 (.slice a7 (tBody B).length c7) (tBody B).length (bv (tBody B)))) (by kernel_rfl) ⟨HKB.out.draw, HJR.out, .inr trivial, Below.drew HF.out.2.2.1, HOW.out⟩ (fun hH => ?_)
      refine wpAnyH_take (i := 0) (oi := { dst := some 50, op := Go.Op.load 30 (Go.Operand.tmp 6), type := 30, pos := "frame.go:115", after := #[], guard := none }) (v := .agg #[.int .i64 n2, .int .i64 n3, .int .u64 n4, .int .u64 n5, .int .i64 n6, .slice a7 (tBody B).length c7]) rfl (by kernel_rfl) (by kernel_rfl) (by kernel_rfl) (fun _ _ _ h => h) (Or.inl ⟨by rfl, fun w hS => exec_load_row (x := .tmp 6) (g := K) (t := 30) (cs := #[.int .i64 n2, .int .i64 n3, .int .u64 n4, .int .u64 n5, .int .i64 n6, .slice a7 (tBody B).length c7]) (fr := (0, 0)) rfl (by rfl) hS.1 Tryd.underlying30 rfl info30s⟩) hH ?_
      simp only [Act.put, List.setIfInBounds_toArray, List.set_cons_zero, List.set_cons_succ]
      refine wpAnyH_take (i := 1) (oi := { dst := some 51, op := Go.Op.load 83 (Go.Operand.tmp 7), type := 83, pos := "frame.go:115", after := #[{ on := 2, ground := Go.Ground.gcOnly Go.Departure.lateStores }], guard := none }) (v := dgV G) rfl (by kernel_rfl) (by kernel_rfl) (by kernel_rfl) (fun _ _ _ h => h) (Or.inl ⟨by rfl, fun w hS => exec_load_row (x := .tmp 7) (g := J) (t := 83) (cs := (kv .u8 G).toArray) (fr := (0, 0)) rfl (by rfl) hS.2.1 Tryd.underlying83 rfl (cells83 HGL.out)⟩) hH ?_
      simp only [Act.put, List.setIfInBounds_toArray, List.set_cons_zero, List.set_cons_succ]
      have M1 : Kp (Blk w14.drew F RZ) := ⟨HF.out.1⟩
      have M2 : Kp (Row w14.drew (F + 1) 83 .u8 (fill 16 [])) := ⟨HF.out.2.1⟩
      clear HF HKB HJR HOW
      generalize w14.drew = w15 at *
      refine wpAnyH_ready (rs := [2]) (by kernel_rfl) (by simp) ?_
      refine AllReadyH.cons (o := { dst := none, op := Go.Op.store 30 (Go.Operand.tmp 2) (Go.Operand.tmp 50), type := 0, pos := "frame.go:115", after := #[{ on := 0, ground := Go.Ground.data }, { on := 0, ground := Go.Ground.phase }, { on := 1, ground := Go.Ground.textOnly Go.Departure.lateStores }], guard := none }) rfl (fun KK hK => ?_) AllReadyH.nil
      rw [if_pos (by rfl)]
      refine wp_store_mid 30 (.tmp 2) (.tmp 50) rfl F 0 #[.int .i64 n2, .int .i64 n3, .int .u64 n4, .int .u64 n5, .int .i64 n6, .slice a7 (tBody B).length c7] ?hx ?hy (there6 M1.out) info30s (six_one _ _ _ _ _ _ _ _) ?_
      case hx => rfl
      case hy => rfl
      have HT2 := Kp.mk (HTU w15 M1.out)
      have N2 := Kp.mk (HT2.out.keep M2.out (by omega))
      have N1 := Kp.mk HT2.out.blk
      refine hK.out _ _ ⟨HT2.out.keep hH.1 (by have := HFF.out; omega), HT2.out.keep hH.2.1 (by have := HJ9.out; omega), .inr trivial, hH.2.2.2.1.trans (HT2.out.below (Nat.le_refl _) (by have := M1.out.lt; omega)), ownsRow_turn hH.2.2.2.2 HT2.out HBB9.out.1⟩ (fun hH2 => ?_)
      clear hK KK hH HT2 M1 M2
      try simp only [Act.put, List.setIfInBounds_toArray, List.set_cons_zero, List.set_cons_succ]
      refine wpAnyH_ready (rs := [3]) (by kernel_rfl) (by simp) ?_
      refine AllReadyH.cons (o := { dst := none, op := Go.Op.store 83 (Go.Operand.tmp 3) (Go.Operand.tmp 51), type := 0, pos := "frame.go:115", after := #[{ on := 1, ground := Go.Ground.data }, { on := 2, ground := Go.Ground.chain }, { on := 0, ground := Go.Ground.phase }, { on := 1, ground := Go.Ground.phase }, { on := 2, ground := Go.Ground.phase }], guard := none }) rfl (fun KK hK => ?_) AllReadyH.nil
      rw [if_pos (by rfl)]
      refine wp_store_row 83 (.tmp 3) (.tmp 51) rfl (F + 1) (kv .u8 G).toArray rfl rfl 83 _ N2.out (cells83 HGL.out) (size83 HGL.out) (kv_all _ _) ?_
      have HT3 := Kp.mk (Turn.ofRow N2.out (kv .u8 G).toArray)
      have P1 := Kp.mk (HT3.out.keep N1.out (by omega))
      have P2 : Kp (Row _ (F + 1) 83 .u8 G) := ⟨HT3.out.blk⟩
      refine hK.out _ _ ⟨HT3.out.keep hH2.1 (by have := HFF.out; omega), HT3.out.keep hH2.2.1 (by have := HJ9.out; omega), .inr trivial, hH2.2.2.2.1.trans (HT3.out.below (by omega) (by have := N1.out.lt; omega)), ownsRow_turn hH2.2.2.2.2 HT3.out HBB9.out.2⟩ (fun hH => ?_)
      clear hK KK hH2 HT3 N1 N2
      try simp only [Act.put, List.setIfInBounds_toArray, List.set_cons_zero, List.set_cons_succ]
      refine wpAnyH_take (i := 4) (oi := { dst := some 4, op := Go.Op.assign (Go.Operand.const (Go.Value.int Go.IntKind.i64 0)), type := 27, pos := "frame.go:115", after := #[{ on := 3, ground := Go.Ground.chain }, { on := 0, ground := Go.Ground.phase }, { on := 1, ground := Go.Ground.phase }, { on := 2, ground := Go.Ground.phase }, { on := 3, ground := Go.Ground.phase }], guard := none }) (v := .int .i64 0) rfl (by kernel_rfl) (by kernel_rfl) (by kernel_rfl) (fun _ _ _ h => h) (Or.inl ⟨by rfl, fun w hS => by first | rfl | go_simp⟩) hH ?_
      simp only [Act.put, List.setIfInBounds_toArray, List.set_cons_zero, List.set_cons_succ]
      have HZ' := Kp.mk (And.intro P1.out (And.intro P2.out (And.intro hH.2.2.2.2 hH.2.2.2.1)))
      clear hH P1 P2
      refine wpAnyH_done (by kernel_rfl) ?_ _
      refine ex_world (fun W => Blk W F (.cells #[.int .i64 n2, .int .i64 n3, .int .u64 n4, .int .u64 n5, .int .i64 n6, .slice a7 (tBody B).length c7] 30) ∧ Row W (F + 1) 83 .u8 G ∧ W.ownsRow w8.heap.size 5 1 (.slice a7 (tBody B).length c7) (tBody B).length (bv (tBody B)) ∧ Below F w W) HZ'.out ?_
      clear HZ'
      intro wz hz
      have HZ := Kp.mk hz
      clear hz
      go_wp2_with fail
      exact bodyPost_ret (results_three rfl _ _ F (F + 1) 30 83 _ _ _ _ (.int .i64 0) rfl rfl rfl HZ.out.1 HZ.out.2.1 Tryd.underlying30 rfl info30s Tryd.underlying83 rfl (cells83 HGL.out)) rfl ⟨a7, c7, by unfold xF xG xX xT; rw [if_pos HGE0.out, if_pos HGE0.out, if_pos HGE0.out, if_pos HGE0.out, if_pos HGE0.out, if_pos HGE0.out, if_pos HGE0.out, HGE0.out, ← HGE.out, HN2.out, HN3.out, HN4.out, HN5.out, HN6.out], by unfold xT; rw [if_pos HGE0.out]; exact HoldsB.ofRow HPB.out HZ.out.2.2.1, by rw [← HFe.out]; exact HZ.out.2.2.2⟩
    | false =>
      have HGE0 : Kp (tErr B = 10) := ⟨by unfold tErr; rw [if_neg (by simp [HE0.out]), if_neg (by rw [hrr]; decide)]⟩
      clear hrr
      have HTH := Kp.mk (there6 HF.out.1)
      have HTU := Kp.mk (turn6 HF.out.1 (.int .i64 0) (.int .i64 0) (.int .u64 0) (.int .u64 0) (.int .i64 0) (.slice none 0 0))
      go_wp2_with (first
        | (refine wpList_store_mid rfl 30 (.tmp 2) (.tmp 48) rfl F 0 #[.int .i64 0, .int .i64 0, .int .u64 0, .int .u64 0, .int .i64 0, .slice none 0 0] rfl rfl HTH.out info30s (six_one _ _ _ _ _ _ _ _) ?_; refine wpl_world (w := w14.setCells F 0 [.int .i64 0, .int .i64 0, .int .u64 0, .int .u64 0, .int .i64 0, .slice none 0 0]) (fun W => Blk W F RZ ∧ Row W (F + 1) 83 .u8 (fill 16 []) ∧ Below F w W) ⟨HTU.out.blk, HTU.out.keep HF.out.2.1 (by omega), HF.out.2.2.1.trans (HTU.out.below (Nat.le_refl _) (by have := HF.out.1.lt; omega))⟩ ?_; rintro wA hA; have HA := Kp.mk hA; clear hA)
        | (refine wpList_store_row rfl 83 (.tmp 3) (.tmp 49) rfl (F + 1) (kv .u8 (fill 16 [])).toArray rfl rfl 83 _ HA.out.2.1 (cells83 rfl) rfl (kv_all _ _) ?_; refine wpl_world (w := wA.setRow (F + 1) (kv .u8 (fill 16 [])).toArray) (fun W => Blk W F RZ ∧ Row W (F + 1) 83 .u8 (fill 16 []) ∧ Below F w W) ⟨(Turn.ofRow HA.out.2.1 _).keep HA.out.1 (by omega), HA.out.2.1.setRow _, Below.row HA.out.2.2 (by omega) _⟩ ?_; rintro wB hB; have HB := Kp.mk hB; clear hB))
      exact bodyPost_ret (results_three rfl _ _ F (F + 1) 30 83 _ _ _ _ (.int .i64 10) rfl rfl rfl HB.out.1 HB.out.2.1 Tryd.underlying30 rfl info30s Tryd.underlying83 rfl (cells83 rfl)) rfl ⟨none, 0, zero_post HGE0.out (by decide), by unfold xT; rw [if_neg (by rw [HGE0.out]; exact (by decide))]; exact HoldsB.nil _ _, by rw [← HFe.out]; exact HB.out.2.2⟩
  · have HGE0 : Kp (tErr B = tEnd B) := ⟨by unfold tErr; rw [if_pos he]⟩
    have HNE := Kp.mk he
    have hk1 : (tEnd B == 0) = false := by simpa using he
    have hk2 : (tEnd B != 0) = true := by simpa using he
    have HF : Kp (Blk w13 F RZ ∧ Row w13 (F + 1) 83 .u8 (fill 16 []) ∧ Below F w w13) := ⟨S13.out.g.b, S13.out.g.s, S13.out.g.below⟩
    clear he S13
    generalize tEnd B = E at *
    have HTH := Kp.mk (there6 HF.out.1)
    have HTU := Kp.mk (turn6 HF.out.1 (.int .i64 0) (.int .i64 0) (.int .u64 0) (.int .u64 0) (.int .i64 0) (.slice none 0 0))
    go_wp2_with (first
      | (refine wpList_store_mid rfl 30 (.tmp 2) (.tmp 42) rfl F 0 #[.int .i64 0, .int .i64 0, .int .u64 0, .int .u64 0, .int .i64 0, .slice none 0 0] rfl rfl HTH.out info30s (six_one _ _ _ _ _ _ _ _) ?_; refine wpl_world (w := w13.setCells F 0 [.int .i64 0, .int .i64 0, .int .u64 0, .int .u64 0, .int .i64 0, .slice none 0 0]) (fun W => Blk W F RZ ∧ Row W (F + 1) 83 .u8 (fill 16 []) ∧ Below F w W) ⟨HTU.out.blk, HTU.out.keep HF.out.2.1 (by omega), HF.out.2.2.trans (HTU.out.below (Nat.le_refl _) (by have := HF.out.1.lt; omega))⟩ ?_; rintro wA hA; have HA := Kp.mk hA; clear hA)
      | (refine wpList_store_row rfl 83 (.tmp 3) (.tmp 43) rfl (F + 1) (kv .u8 (fill 16 [])).toArray rfl rfl 83 _ HA.out.2.1 (cells83 rfl) rfl (kv_all _ _) ?_; refine wpl_world (w := wA.setRow (F + 1) (kv .u8 (fill 16 [])).toArray) (fun W => Blk W F RZ ∧ Row W (F + 1) 83 .u8 (fill 16 []) ∧ Below F w W) ⟨(Turn.ofRow HA.out.2.1 _).keep HA.out.1 (by omega), HA.out.2.1.setRow _, Below.row HA.out.2.2 (by omega) _⟩ ?_; rintro wB hB; have HB := Kp.mk hB; clear hB))
    exact bodyPost_ret (results_three rfl _ _ F (F + 1) 30 83 _ _ _ _ (.int .i64 E) rfl rfl rfl HB.out.1 HB.out.2.1 Tryd.underlying30 rfl info30s Tryd.underlying83 rfl (cells83 rfl)) rfl ⟨none, 0, zero_post HGE0.out HNE.out, by unfold xT; rw [if_neg (by rw [HGE0.out]; exact HNE.out)]; exact HoldsB.nil _ _, by rw [← HFe.out]; exact HB.out.2.2⟩
end Go.Proofs.YtgabjmmmiogfjaaDoor
