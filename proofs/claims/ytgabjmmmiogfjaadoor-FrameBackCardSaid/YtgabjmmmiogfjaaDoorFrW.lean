/-
  The law FrameOpens, walked.
-/
import Derived.Test.YtgabjmmmiogfjaaDoorFrV
namespace Go.Proofs.YtgabjmmmiogfjaaDoor
open Go.RowKit

/-- On the way: the key's row, the bytes, the constants. -/
structure OSt (w : World) (A : Nat) (key B : List Int) (v : Value) (W : World) : Prop where
  k : Row W A 22 .u8 key
  b : HoldsB W A v B
  n : KonIs W
  below : Below A w W
theorem OSt.more {w W W' : World} {A : Nat} {key B : List Int} {v : Value} (h : OSt w A key B v W) (hb : Below W.heap.size W W') : OSt w A key B v W' :=
  ⟨h.k.keep hb, h.b.keep hb, h.n.keep hb, h.below.trans (hb.mono (Nat.le_of_lt (Blk.lt h.k)))⟩
theorem OSt.turn {w W W' : World} {A b : Nat} {key B : List Int} {v : Value} {o : Obj} (h : OSt w A key B v W) (hT : Turn b o W W') (hb : A < b) : OSt w A key B v W' :=
  ⟨hT.keep h.k (by omega), h.b.turn hT (by omega), h.n.turn hT (by omega), h.below.trans (hT.below (by omega) (by have := Blk.lt h.k; omega))⟩
/-- A frame in its cell, and its text. -/
structure FIn (W : World) (N : Nat) (t : TypeId) (cs : Array Value) (s : Value) (l : List Int) : Prop where
  b : Blk W N (.cells cs t)
  m : HoldsB W N s l
theorem FIn.more {W W' : World} {N : Nat} {t : TypeId} {cs : Array Value} {s : Value} {l : List Int} (h : FIn W N t cs s l) (hb : Below W.heap.size W W') : FIn W' N t cs s l := ⟨h.b.keep hb, h.m.keep hb⟩
theorem FIn.turn {W W' : World} {N b : Nat} {t : TypeId} {cs : Array Value} {s : Value} {l : List Int} {o : Obj} (h : FIn W N t cs s l) (hT : Turn b o W W') (hb : N < b) : FIn W' N t cs s l := ⟨hT.keep h.b (by omega), h.m.turn hT (by omega)⟩
theorem FIn.set {W : World} {N : Nat} {t : TypeId} {cs old : Array Value} {s : Value} {l : List Int} (hb : Blk W N (.cells old t)) (h : HoldsB W N s l) : FIn (W.setRow N cs) N t cs s l := ⟨(Turn.ofRow hb cs).blk, h.turn (Turn.ofRow hb cs) (Nat.le_refl _)⟩
set_option maxRecDepth 100000 in
set_option maxHeartbeats 8000000 in
theorem opens_core (key B : List Int) (v : Value) (w : World) (hk : KonIs w) (hkey : key.length = 32 ∧ Bytes key) (h : HoldsB w w.heap.size v B) (f1 f2 f3 f4 f5 g1 g2 g3 g4 g5 E O : Int) (X Y T : List Int) (hT : T.length = 16)
    (C1 : Kp (∀ M v w, HoldsB w M v B → Calls Tryd.prog 14 #[v] w (fun r w' => ∃ a n c, r = .returned (.tuple #[.agg #[.int .i64 f1, .int .i64 f2, .int .u64 f3, .int .u64 f4, .int .i64 f5, .slice a n c], .int .i64 E]) ∧ HoldsB w' w'.heap.size (.slice a n c) X ∧ Below w.heap.size w w')))
    (C2 : Kp (∀ M v w, HoldsB w M v B → M ≤ w.heap.size → Calls Tryd.prog 15 #[v] w (fun r w' => ∃ a n c, r = .returned (.tuple #[.agg #[.int .i64 f1, .int .i64 f2, .int .u64 f3, .int .u64 f4, .int .i64 f5, .slice a n c], dgV T, .int .i64 E]) ∧ HoldsB w' w'.heap.size (.slice a n c) X ∧ Below w.heap.size w w')))
    (C3 : Kp (∀ M v w, KonIs w → HoldsB w M v B → M ≤ w.heap.size → Calls Tryd.prog 16 #[dgV key, v] w (fun r w' => ∃ a n c, r = .returned (.tuple #[.agg #[.int .i64 g1, .int .i64 g2, .int .u64 g3, .int .u64 g4, .int .i64 g5, .slice a n c], .int .i64 O]) ∧ HoldsB w' w'.heap.size (.slice a n c) Y ∧ Below w.heap.size w w')))
    (C4 : Kp (∀ M v w, HoldsB w M v B → M ≤ w.heap.size → Calls Tryd.prog 17 #[dgV key, v] w (fun r w' => ∃ a n c, r = .returned (.tuple #[.agg #[.int .i64 g1, .int .i64 g2, .int .u64 g3, .int .u64 g4, .int .i64 g5, .slice a n c], .int .i64 O]) ∧ HoldsB w' w'.heap.size (.slice a n c) Y ∧ Below w.heap.size w w'))) :
    Calls Tryd.prog 4 #[dgV key, v] w fun r w' => r = .returned (.bool true) ∧ Below w.heap.size w w' := by
  have hC := fun (w : World) => box_row (t := 22) (cs := kv .u8 key) (cells22 hkey.1) w
  obtain ⟨A, hA⟩ : ∃ A, A = w.heap.size := ⟨_, rfl⟩
  have HA := Kp.mk hA
  have HKEY := Kp.mk hkey
  have H := Kp.mk h
  have HT := Kp.mk hT
  have HKON := Kp.mk hk
  obtain ⟨va, vn, vc, rfl, -⟩ := h.slice
  clear hk hkey h hA hT
  go_enter Tryd.func4, Tryd.ntmps4
  go_wp2_with (refine wpList_box_eq rfl 22 (.tmp 0) rfl _ rfl _ _ (hC _) ?_; rw [← HA.out]; refine wpl_world (fun W => OSt w A key B (.slice va vn vc) W) ⟨Blk.newAt _ HA.out, by rw [HA.out]; exact H.out.alloc _, HKON.out.keep (more (Below.refl _ _) _), by rw [HA.out]; exact more (Below.refl _ _) _⟩ ?_; rintro W0 h0; have S0 := Kp.mk h0; clear h0)
  clear hC
  refine (C1.out A _ _ S0.out.b).mono ?_
  rintro r w1 ⟨a1, n1, c1, rfl, hh, hb⟩
  have U1 := Kp.mk (S0.out.more hb)
  have HH1 := Kp.mk hh
  clear hh hb S0
  obtain ⟨N1, hN1⟩ : ∃ N1, N1 = w1.heap.size := ⟨_, rfl⟩
  have HN1 := Kp.mk hN1
  have L1 : Kp (A < N1) := ⟨by rw [hN1]; exact Blk.lt U1.out.k⟩
  clear hN1
  go_wp2_with (refine wpList_store_row rfl 30 (.tmp 5) (.tmp 17) rfl w1.heap.size #[.int .i64 f1, .int .i64 f2, .int .u64 f3, .int .u64 f4, .int .i64 f5, .slice a1 n1 c1] rfl rfl 30 _ (Blk.newAt _ rfl) info30s rfl (six_one _ _ _ _ _ _ _ _) ?_; rw [← HN1.out]; refine wpl_world (w := (w1.alloc RZ).setRow N1 #[.int .i64 f1, .int .i64 f2, .int .u64 f3, .int .u64 f4, .int .i64 f5, .slice a1 n1 c1]) (fun W => OSt w A key B (.slice va vn vc) W ∧ FIn W N1 30 #[.int .i64 f1, .int .i64 f2, .int .u64 f3, .int .u64 f4, .int .i64 f5, .slice a1 n1 c1] (.slice a1 n1 c1) X) ⟨(U1.out.more (more (Below.refl _ _) _)).turn (Turn.ofRow (Blk.newAt _ HN1.out) _) (by have := L1.out; omega), FIn.set (Blk.newAt _ HN1.out) (by rw [HN1.out]; exact HH1.out.alloc _)⟩ ?_; rintro W1 h1; have S1 := Kp.mk h1; clear h1)
  refine (C2.out A _ _ S1.out.1.b (Nat.le_of_lt (Blk.lt S1.out.1.k))).mono ?_
  rintro r w2 ⟨a2, n2, c2, rfl, hh, hb⟩
  have U2 : Kp (OSt w A key B (.slice va vn vc) w2 ∧ FIn w2 N1 30 #[.int .i64 f1, .int .i64 f2, .int .u64 f3, .int .u64 f4, .int .i64 f5, .slice a1 n1 c1] (.slice a1 n1 c1) X) := ⟨⟨S1.out.1.more hb, S1.out.2.more hb⟩⟩
  have HH2 := Kp.mk hh
  clear hh hb S1
  obtain ⟨N2, hN2⟩ : ∃ N2, N2 = w2.heap.size := ⟨_, rfl⟩
  have HN2 := Kp.mk hN2
  have L2 : Kp (A < N2 ∧ N1 < N2) := ⟨by rw [hN2]; exact ⟨Blk.lt U2.out.1.k, U2.out.2.b.lt⟩⟩
  clear hN2
  go_wp2_with (first
    | (refine wpList_alloc_row rfl 40 rfl _ _ infoz40 ?_; rw [show (w2.alloc RZ26).heap.size = N2 + 1 by rw [HN2.out]; simp, ← HN2.out]; refine wpl_world (w := ((w2.alloc RZ26).alloc (.cells (kv .u8 (fill 16 [])).toArray 40))) (fun W => OSt w A key B (.slice va vn vc) W ∧ FIn W N1 30 #[.int .i64 f1, .int .i64 f2, .int .u64 f3, .int .u64 f4, .int .i64 f5, .slice a1 n1 c1] (.slice a1 n1 c1) X ∧ Blk W N2 RZ26 ∧ Row W (N2 + 1) 40 .u8 (fill 16 []) ∧ HoldsB W N2 (.slice a2 n2 c2) X) ⟨(U2.out.1.more (more (Below.refl _ _) _)).more (more (Below.refl _ _) _), (U2.out.2.more (more (Below.refl _ _) _)).more (more (Below.refl _ _) _), (Blk.newAt _ HN2.out).old _, Blk.newAt _ (by rw [HN2.out]; simp), by rw [HN2.out]; exact (HH2.out.alloc _).alloc _⟩ ?_; rintro V1 h1; have Q1 := Kp.mk h1; clear h1)
    | (refine wpList_store_row rfl 26 (.tmp 7) (.tmp 22) rfl N2 #[.int .i64 f1, .int .i64 f2, .int .u64 f3, .int .u64 f4, .int .i64 f5, .slice a2 n2 c2] rfl rfl 26 _ Q1.out.2.2.1 info26s rfl (six_one _ _ _ _ _ _ _ _) ?_; refine wpl_world (w := V1.setRow N2 #[.int .i64 f1, .int .i64 f2, .int .u64 f3, .int .u64 f4, .int .i64 f5, .slice a2 n2 c2]) (fun W => OSt w A key B (.slice va vn vc) W ∧ FIn W N1 30 #[.int .i64 f1, .int .i64 f2, .int .u64 f3, .int .u64 f4, .int .i64 f5, .slice a1 n1 c1] (.slice a1 n1 c1) X ∧ FIn W N2 26 #[.int .i64 f1, .int .i64 f2, .int .u64 f3, .int .u64 f4, .int .i64 f5, .slice a2 n2 c2] (.slice a2 n2 c2) X ∧ Row W (N2 + 1) 40 .u8 (fill 16 [])) ⟨Q1.out.1.turn (Turn.ofRow Q1.out.2.2.1 _) L2.out.1, Q1.out.2.1.turn (Turn.ofRow Q1.out.2.2.1 _) L2.out.2, FIn.set Q1.out.2.2.1 Q1.out.2.2.2.2, (Turn.ofRow Q1.out.2.2.1 _).keep Q1.out.2.2.2.1 (by omega)⟩ ?_; rintro V2 h1; have Q2 := Kp.mk h1; clear h1)
    | (refine wpList_store_row rfl 40 (.tmp 8) (.tmp 23) rfl (N2 + 1) (kv .u8 T).toArray rfl rfl 40 _ Q2.out.2.2.2 (cells40 HT.out) (size83 HT.out) (kv_all _ _) ?_; refine wpl_world (w := V2.setRow (N2 + 1) (kv .u8 T).toArray) (fun W => OSt w A key B (.slice va vn vc) W ∧ FIn W N1 30 #[.int .i64 f1, .int .i64 f2, .int .u64 f3, .int .u64 f4, .int .i64 f5, .slice a1 n1 c1] (.slice a1 n1 c1) X ∧ FIn W N2 26 #[.int .i64 f1, .int .i64 f2, .int .u64 f3, .int .u64 f4, .int .i64 f5, .slice a2 n2 c2] (.slice a2 n2 c2) X) ⟨Q2.out.1.turn (Turn.ofRow Q2.out.2.2.2 _) (by have := L2.out; omega), Q2.out.2.1.turn (Turn.ofRow Q2.out.2.2.2 _) (by have := L2.out; omega), Q2.out.2.2.1.turn (Turn.ofRow Q2.out.2.2.2 _) (by omega)⟩ ?_; rintro W2 h1; have S2 := Kp.mk h1; clear h1)
    | (refine wpList_load_row rfl 22 (.tmp 2) rfl A rfl 22 (kv .u8 key).toArray (0, 0) _ S2.out.1.k Tryd.underlying22 rfl (cells22 HKEY.out.1) ?_))
  refine (C3.out A _ _ S2.out.1.n S2.out.1.b (Nat.le_of_lt (Blk.lt S2.out.1.k))).mono ?_
  rintro r w3 ⟨a3, n3, c3, rfl, hh, hb⟩
  have U3 : Kp (OSt w A key B (.slice va vn vc) w3 ∧ FIn w3 N1 30 #[.int .i64 f1, .int .i64 f2, .int .u64 f3, .int .u64 f4, .int .i64 f5, .slice a1 n1 c1] (.slice a1 n1 c1) X ∧ FIn w3 N2 26 #[.int .i64 f1, .int .i64 f2, .int .u64 f3, .int .u64 f4, .int .i64 f5, .slice a2 n2 c2] (.slice a2 n2 c2) X) := ⟨⟨S2.out.1.more hb, S2.out.2.1.more hb, S2.out.2.2.more hb⟩⟩
  have HH3 := Kp.mk hh
  clear hh hb S2
  obtain ⟨N3, hN3⟩ : ∃ N3, N3 = w3.heap.size := ⟨_, rfl⟩
  have HN3 := Kp.mk hN3
  have L3 : Kp (A < N3 ∧ N1 < N3 ∧ N2 < N3) := ⟨by rw [hN3]; exact ⟨Blk.lt U3.out.1.k, U3.out.2.1.b.lt, U3.out.2.2.b.lt⟩⟩
  clear hN3
  go_wp2_with (first
    | (refine wpList_store_row rfl 30 (.tmp 10) (.tmp 29) rfl w3.heap.size #[.int .i64 g1, .int .i64 g2, .int .u64 g3, .int .u64 g4, .int .i64 g5, .slice a3 n3 c3] rfl rfl 30 _ (Blk.newAt _ rfl) info30s rfl (six_one _ _ _ _ _ _ _ _) ?_; rw [← HN3.out]; refine wpl_world (w := (w3.alloc RZ).setRow N3 #[.int .i64 g1, .int .i64 g2, .int .u64 g3, .int .u64 g4, .int .i64 g5, .slice a3 n3 c3]) (fun W => OSt w A key B (.slice va vn vc) W ∧ FIn W N1 30 #[.int .i64 f1, .int .i64 f2, .int .u64 f3, .int .u64 f4, .int .i64 f5, .slice a1 n1 c1] (.slice a1 n1 c1) X ∧ FIn W N2 26 #[.int .i64 f1, .int .i64 f2, .int .u64 f3, .int .u64 f4, .int .i64 f5, .slice a2 n2 c2] (.slice a2 n2 c2) X ∧ FIn W N3 30 #[.int .i64 g1, .int .i64 g2, .int .u64 g3, .int .u64 g4, .int .i64 g5, .slice a3 n3 c3] (.slice a3 n3 c3) Y) ⟨(U3.out.1.more (more (Below.refl _ _) _)).turn (Turn.ofRow (Blk.newAt _ HN3.out) _) (by have := L3.out; omega), (U3.out.2.1.more (more (Below.refl _ _) _)).turn (Turn.ofRow (Blk.newAt _ HN3.out) _) (by have := L3.out; omega), (U3.out.2.2.more (more (Below.refl _ _) _)).turn (Turn.ofRow (Blk.newAt _ HN3.out) _) (by have := L3.out; omega), FIn.set (Blk.newAt _ HN3.out) (by rw [HN3.out]; exact HH3.out.alloc _)⟩ ?_; rintro W3 h3; have S3 := Kp.mk h3; clear h3)
    | (refine wpList_load_row rfl 22 (.tmp 2) rfl A rfl 22 (kv .u8 key).toArray (0, 0) _ S3.out.1.k Tryd.underlying22 rfl (cells22 HKEY.out.1) ?_))
  refine (C4.out A _ _ S3.out.1.b (Nat.le_of_lt (Blk.lt S3.out.1.k))).mono ?_
  rintro r w4 ⟨a4, n4, c4, rfl, hh, hb⟩
  have U4 : Kp (OSt w A key B (.slice va vn vc) w4 ∧ FIn w4 N1 30 #[.int .i64 f1, .int .i64 f2, .int .u64 f3, .int .u64 f4, .int .i64 f5, .slice a1 n1 c1] (.slice a1 n1 c1) X ∧ FIn w4 N2 26 #[.int .i64 f1, .int .i64 f2, .int .u64 f3, .int .u64 f4, .int .i64 f5, .slice a2 n2 c2] (.slice a2 n2 c2) X ∧ FIn w4 N3 30 #[.int .i64 g1, .int .i64 g2, .int .u64 g3, .int .u64 g4, .int .i64 g5, .slice a3 n3 c3] (.slice a3 n3 c3) Y) := ⟨⟨S3.out.1.more hb, S3.out.2.1.more hb, S3.out.2.2.1.more hb, S3.out.2.2.2.more hb⟩⟩
  have HH4 := Kp.mk hh
  clear hh hb S3
  obtain ⟨N4, hN4⟩ : ∃ N4, N4 = w4.heap.size := ⟨_, rfl⟩
  have HN4 := Kp.mk hN4
  have L4 : Kp (A < N4 ∧ N1 < N4 ∧ N2 < N4 ∧ N3 < N4) := ⟨by rw [hN4]; exact ⟨Blk.lt U4.out.1.k, U4.out.2.1.b.lt, U4.out.2.2.1.b.lt, U4.out.2.2.2.b.lt⟩⟩
  clear hN4
  go_wp2_with (refine wpList_store_row rfl 26 (.tmp 12) (.tmp 35) rfl w4.heap.size #[.int .i64 g1, .int .i64 g2, .int .u64 g3, .int .u64 g4, .int .i64 g5, .slice a4 n4 c4] rfl rfl 26 _ (Blk.newAt _ rfl) info26s rfl (six_one _ _ _ _ _ _ _ _) ?_; rw [← HN4.out]; refine wpl_world (w := (w4.alloc RZ26).setRow N4 #[.int .i64 g1, .int .i64 g2, .int .u64 g3, .int .u64 g4, .int .i64 g5, .slice a4 n4 c4]) (fun W => OSt w A key B (.slice va vn vc) W ∧ FIn W N1 30 #[.int .i64 f1, .int .i64 f2, .int .u64 f3, .int .u64 f4, .int .i64 f5, .slice a1 n1 c1] (.slice a1 n1 c1) X ∧ FIn W N2 26 #[.int .i64 f1, .int .i64 f2, .int .u64 f3, .int .u64 f4, .int .i64 f5, .slice a2 n2 c2] (.slice a2 n2 c2) X ∧ FIn W N3 30 #[.int .i64 g1, .int .i64 g2, .int .u64 g3, .int .u64 g4, .int .i64 g5, .slice a3 n3 c3] (.slice a3 n3 c3) Y ∧ FIn W N4 26 #[.int .i64 g1, .int .i64 g2, .int .u64 g3, .int .u64 g4, .int .i64 g5, .slice a4 n4 c4] (.slice a4 n4 c4) Y) ⟨(U4.out.1.more (more (Below.refl _ _) _)).turn (Turn.ofRow (Blk.newAt _ HN4.out) _) (by have := L4.out; omega), (U4.out.2.1.more (more (Below.refl _ _) _)).turn (Turn.ofRow (Blk.newAt _ HN4.out) _) (by have := L4.out; omega), (U4.out.2.2.1.more (more (Below.refl _ _) _)).turn (Turn.ofRow (Blk.newAt _ HN4.out) _) (by have := L4.out; omega), (U4.out.2.2.2.more (more (Below.refl _ _) _)).turn (Turn.ofRow (Blk.newAt _ HN4.out) _) (by have := L4.out; omega), FIn.set (Blk.newAt _ HN4.out) (by rw [HN4.out]; exact HH4.out.alloc _)⟩ ?_; rintro W4 h4; have S4 := Kp.mk h4; clear h4)
  have qE : (E == E) = true := by simp
  have qO : (O == O) = true := by simp
  refine wp_region_flow (fun W => OSt w A key B (.slice va vn vc) W ∧ FIn W N1 30 #[.int .i64 f1, .int .i64 f2, .int .u64 f3, .int .u64 f4, .int .i64 f5, .slice a1 n1 c1] (.slice a1 n1 c1) X ∧ FIn W N2 26 #[.int .i64 f1, .int .i64 f2, .int .u64 f3, .int .u64 f4, .int .i64 f5, .slice a2 n2 c2] (.slice a2 n2 c2) X ∧ FIn W N3 30 #[.int .i64 g1, .int .i64 g2, .int .u64 g3, .int .u64 g4, .int .i64 g5, .slice a3 n3 c3] (.slice a3 n3 c3) Y ∧ FIn W N4 26 #[.int .i64 g1, .int .i64 g2, .int .u64 g3, .int .u64 g4, .int .i64 g5, .slice a4 n4 c4] (.slice a4 n4 c4) Y) (by kernel_rfl) (by kernel_rfl) (by kernel_rfl) (fun w1 w2 h hb => ⟨h.1.more hb, h.2.1.more hb, h.2.2.1.more hb, h.2.2.2.1.more hb, h.2.2.2.2.more hb⟩) ⟨S4.out.1.more (Below.refl _ _).drew, S4.out.2.1.more (Below.refl _ _).drew, S4.out.2.2.1.more (Below.refl _ _).drew, S4.out.2.2.2.1.more (Below.refl _ _).drew, S4.out.2.2.2.2.more (Below.refl _ _).drew⟩ ?_
  refine Flow.call (v := .bool true) (by first | rfl | kernel_rfl) (f := 12) (args := #[]) (fun wx hS => by go_simp) (fun wx hS => awake_any wx hS.1.n) ?_
  try simp only [Act.put, List.setIfInBounds_toArray, List.set_cons_zero, List.set_cons_succ]
  refine Flow.value (v := .bool true) (by first | rfl | kernel_rfl) (fun wx hS => by go_simp; first | done | with_reducible rfl | rfl) ?_
  try simp only [Act.put, List.setIfInBounds_toArray, List.set_cons_zero, List.set_cons_succ]
  refine Flow.value (v := .int .i64 E) (by first | rfl | kernel_rfl) (fun wx hS => by go_simp; first | done | with_reducible rfl | rfl) ?_
  try simp only [Act.put, List.setIfInBounds_toArray, List.set_cons_zero, List.set_cons_succ]
  refine Flow.value (v := .int .i64 E) (by first | rfl | kernel_rfl) (fun wx hS => by go_simp; first | done | with_reducible rfl | rfl) ?_
  try simp only [Act.put, List.setIfInBounds_toArray, List.set_cons_zero, List.set_cons_succ]
  refine Flow.value (v := .bool true) (by first | rfl | kernel_rfl) (fun wx hS => by go_simp; first | done | with_reducible rfl | rfl) ?_
  try simp only [Act.put, List.setIfInBounds_toArray, List.set_cons_zero, List.set_cons_succ]
  refine Flow.value (v := .bool true) (by first | rfl | kernel_rfl) (fun wx hS => by go_simp; first | done | with_reducible rfl | rfl) ?_
  try simp only [Act.put, List.setIfInBounds_toArray, List.set_cons_zero, List.set_cons_succ]
  refine Flow.value (v := .bool true) (by first | rfl | kernel_rfl) (fun wx hS => by go_simp; first | done | with_reducible rfl | rfl) ?_
  try simp only [Act.put, List.setIfInBounds_toArray, List.set_cons_zero, List.set_cons_succ]
  refine Flow.value (v := .agg #[.int .i64 f1, .int .i64 f2, .int .u64 f3, .int .u64 f4, .int .i64 f5, .slice a1 n1 c1]) (by first | rfl | kernel_rfl) (fun wx hS => by exact exec_load_blk 30 (.tmp 5) rfl N1 rfl 30 _ (0, 0) _ hS.2.1.b Tryd.underlying30 rfl info30s) ?_
  try simp only [Act.put, List.setIfInBounds_toArray, List.set_cons_zero, List.set_cons_succ]
  refine Flow.call (v := .agg #[.int .i64 f1, .int .i64 f2, .int .u64 f3, .int .u64 f4, .int .i64 f5, .slice a1 n1 c1]) (by first | rfl | kernel_rfl) (f := 19) (args := #[.agg #[.int .i64 f1, .int .i64 f2, .int .u64 f3, .int .u64 f4, .int .i64 f5, .slice a1 n1 c1]]) (fun wx hS => by go_simp) (fun wx hS => from_any _ _ _ _ _ _ _ _ wx) ?_
  try simp only [Act.put, List.setIfInBounds_toArray, List.set_cons_zero, List.set_cons_succ]
  refine Flow.value (v := .agg #[.int .i64 f1, .int .i64 f2, .int .u64 f3, .int .u64 f4, .int .i64 f5, .slice a2 n2 c2]) (by first | rfl | kernel_rfl) (fun wx hS => by exact exec_load_blk 26 (.tmp 7) rfl N2 rfl 26 _ (0, 0) _ hS.2.2.1.b Tryd.underlying26 rfl info26s) ?_
  try simp only [Act.put, List.setIfInBounds_toArray, List.set_cons_zero, List.set_cons_succ]
  refine Flow.call (v := .bool true) (by first | rfl | kernel_rfl) (f := 18) (args := #[.agg #[.int .i64 f1, .int .i64 f2, .int .u64 f3, .int .u64 f4, .int .i64 f5, .slice a1 n1 c1], .agg #[.int .i64 f1, .int .i64 f2, .int .u64 f3, .int .u64 f4, .int .i64 f5, .slice a2 n2 c2]]) (fun wx hS => by go_simp) (fun wx hS => same_one _ _ _ _ _ _ _ _ _ _ _ _ _ X wx hS.2.1.m hS.2.2.1.m) ?_
  try simp only [Act.put, List.setIfInBounds_toArray, List.set_cons_zero, List.set_cons_succ]
  refine Flow.value (v := .bool true) (by first | rfl | kernel_rfl) (fun wx hS => by go_simp; first | done | with_reducible rfl | rfl) ?_
  try simp only [Act.put, List.setIfInBounds_toArray, List.set_cons_zero, List.set_cons_succ]
  refine Flow.value (v := .bool true) (by first | rfl | kernel_rfl) (fun wx hS => by go_simp; first | done | with_reducible rfl | rfl) ?_
  try simp only [Act.put, List.setIfInBounds_toArray, List.set_cons_zero, List.set_cons_succ]
  refine Flow.value (v := .int .i64 O) (by first | rfl | kernel_rfl) (fun wx hS => by go_simp; first | done | with_reducible rfl | rfl) ?_
  try simp only [Act.put, List.setIfInBounds_toArray, List.set_cons_zero, List.set_cons_succ]
  refine Flow.value (v := .int .i64 O) (by first | rfl | kernel_rfl) (fun wx hS => by go_simp; first | done | with_reducible rfl | rfl) ?_
  try simp only [Act.put, List.setIfInBounds_toArray, List.set_cons_zero, List.set_cons_succ]
  refine Flow.value (v := .bool true) (by first | rfl | kernel_rfl) (fun wx hS => by go_simp; first | done | with_reducible rfl | rfl) ?_
  try simp only [Act.put, List.setIfInBounds_toArray, List.set_cons_zero, List.set_cons_succ]
  refine Flow.value (v := .bool true) (by first | rfl | kernel_rfl) (fun wx hS => by go_simp; first | done | with_reducible rfl | rfl) ?_
  try simp only [Act.put, List.setIfInBounds_toArray, List.set_cons_zero, List.set_cons_succ]
  refine Flow.value (v := .bool true) (by first | rfl | kernel_rfl) (fun wx hS => by go_simp; first | done | with_reducible rfl | rfl) ?_
  try simp only [Act.put, List.setIfInBounds_toArray, List.set_cons_zero, List.set_cons_succ]
  refine Flow.value (v := .agg #[.int .i64 g1, .int .i64 g2, .int .u64 g3, .int .u64 g4, .int .i64 g5, .slice a3 n3 c3]) (by first | rfl | kernel_rfl) (fun wx hS => by exact exec_load_blk 30 (.tmp 10) rfl N3 rfl 30 _ (0, 0) _ hS.2.2.2.1.b Tryd.underlying30 rfl info30s) ?_
  try simp only [Act.put, List.setIfInBounds_toArray, List.set_cons_zero, List.set_cons_succ]
  refine Flow.call (v := .agg #[.int .i64 g1, .int .i64 g2, .int .u64 g3, .int .u64 g4, .int .i64 g5, .slice a3 n3 c3]) (by first | rfl | kernel_rfl) (f := 19) (args := #[.agg #[.int .i64 g1, .int .i64 g2, .int .u64 g3, .int .u64 g4, .int .i64 g5, .slice a3 n3 c3]]) (fun wx hS => by go_simp) (fun wx hS => from_any _ _ _ _ _ _ _ _ wx) ?_
  try simp only [Act.put, List.setIfInBounds_toArray, List.set_cons_zero, List.set_cons_succ]
  refine Flow.value (v := .agg #[.int .i64 g1, .int .i64 g2, .int .u64 g3, .int .u64 g4, .int .i64 g5, .slice a4 n4 c4]) (by first | rfl | kernel_rfl) (fun wx hS => by exact exec_load_blk 26 (.tmp 12) rfl N4 rfl 26 _ (0, 0) _ hS.2.2.2.2.b Tryd.underlying26 rfl info26s) ?_
  try simp only [Act.put, List.setIfInBounds_toArray, List.set_cons_zero, List.set_cons_succ]
  refine Flow.call (v := .bool true) (by first | rfl | kernel_rfl) (f := 18) (args := #[.agg #[.int .i64 g1, .int .i64 g2, .int .u64 g3, .int .u64 g4, .int .i64 g5, .slice a3 n3 c3], .agg #[.int .i64 g1, .int .i64 g2, .int .u64 g3, .int .u64 g4, .int .i64 g5, .slice a4 n4 c4]]) (fun wx hS => by go_simp) (fun wx hS => same_one _ _ _ _ _ _ _ _ _ _ _ _ _ Y wx hS.2.2.2.1.m hS.2.2.2.2.m) ?_
  try simp only [Act.put, List.setIfInBounds_toArray, List.set_cons_zero, List.set_cons_succ]
  refine Flow.value (v := .bool true) (by first | rfl | kernel_rfl) (fun wx hS => by go_simp; first | done | with_reducible rfl | rfl) ?_
  try simp only [Act.put, List.setIfInBounds_toArray, List.set_cons_zero, List.set_cons_succ]
  refine Flow.value (v := .bool true) (by first | rfl | kernel_rfl) (fun wx hS => by go_simp; first | done | with_reducible rfl | rfl) ?_
  try simp only [Act.put, List.setIfInBounds_toArray, List.set_cons_zero, List.set_cons_succ]
  refine Flow.done ?_
  intro w5 hS
  have HB5 := Kp.mk hS.1.below
  clear hS
  go_wp2_with fail
  go_ret
  exact ⟨rfl, by rw [← HA.out]; exact HB5.out⟩
set_option maxRecDepth 100000 in
set_option maxHeartbeats 4000000 in
theorem opens_walk (key B : List Int) (v : Value) (w : World) (hk : KonIs w) (hkey : key.length = 32 ∧ Bytes key) (h : HoldsB w w.heap.size v B) (hr : B.length ≤ 140737488351232) :
    Calls Tryd.prog 4 #[dgV key, v] w fun r w' => r = .returned (.bool true) ∧ Below w.heap.size w w' :=
  opens_core key B v w hk hkey h (xX B (tFr B)) (xX B (tTo B)) (xX B (tBo B)) (xX B (tCo B)) (xX B (tKi B)) (yX key B (tFr B)) (yX key B (tTo B)) (yX key B (tBo B)) (yX key B (tCo B)) (yX key B (tKi B)) (tErr B) (oErr key B) (xT B) (yT key B) (tTag B) (tTag_len B)
    ⟨fun M v w h => (peek_any M v B w h hr).mono fun r w' ⟨a, c, h1, h2, h3⟩ => ⟨a, _, c, h1, h2, h3⟩⟩
    ⟨fun M v w h hM => (rpeek_any M v B w h hM).mono fun r w' ⟨a, c, h1, h2, h3⟩ => ⟨a, _, c, h1, h2, h3⟩⟩
    ⟨fun M v w hk h hM => (open_any M v key B w hk hkey h hM hr (fun h0 => (taken_laid h.bytes h0).1)).mono fun r w' ⟨a, c, h1, h2, h3⟩ => ⟨a, _, c, h1, h2, h3⟩⟩
    ⟨fun M v w h hM => (ropen_any M v key B w hkey h hM hr).mono fun r w' ⟨a, c, h1, h2, h3⟩ => ⟨a, _, c, h1, h2, h3⟩⟩
end Go.Proofs.YtgabjmmmiogfjaaDoor
