/-
  The document's Open.
-/
import Derived.Test.YtgabjmmmiogfjaaDoorFrT
namespace Go.Proofs.YtgabjmmmiogfjaaDoor
open Go.RowKit

theorem bytes_inj {p q : List Int} (hp : Bytes p) (hq : Bytes q) : (p.map fun n => UInt8.ofNat n.toNat) = (q.map fun n => UInt8.ofNat n.toNat) ↔ p = q := by
  refine ⟨fun h => ?_, fun h => by rw [h]⟩
  induction p generalizing q with
  | nil => cases q with
    | nil => rfl
    | cons y r => simp at h
  | cons x p ih => cases q with
    | nil => simp at h
    | cons y r =>
      simp only [List.map_cons, List.cons.injEq] at h
      have hx := hp x (by simp)
      have hy := hq y (by simp)
      have h1 := congrArg UInt8.toNat h.1
      rw [UInt8.toNat_ofNat', UInt8.toNat_ofNat'] at h1
      have e : x = y := by omega
      rw [e, ih (fun z hz => hp z (List.mem_cons_of_mem _ hz)) (fun z hz => hq z (List.mem_cons_of_mem _ hz)) h.2]
theorem neq40 {p q : List Int} (hp : Bytes p) (hq : Bytes q) (h : p.length = 16) (g : q.length = 16) (w : World) : (binOp .neq 40 (dgV p) (dgV q)).run Tryd.prog w = .ok (.bool (!decide (p = q))) w := by
  have := run_equalIn_bytes (P := Tryd.prog) w 9998 40 5 16 Tryd.underlying40 Tryd.underlying5 size5 (p.map fun n => UInt8.ofNat n.toNat) (q.map fun n => UInt8.ofNat n.toNat) (by simp [h]) (by simp [g])
  rw [bv_cells hp, bv_cells hq] at this
  have e : ((p.map fun n => UInt8.ofNat n.toNat) == (q.map fun n => UInt8.ofNat n.toNat)) = decide (p = q) := by
    rw [Bool.eq_iff_iff, beq_iff_eq, decide_eq_true_iff]
    exact bytes_inj hp hq
  rw [e] at this
  rw [run_neq_struct, this]
  rfl
theorem neg40 (p q : List Int) (x y : Operand) (w : World) : (eqGuard .neq 40 x y (dgV p) (dgV q)).run Tryd.prog w = .ok () w := by kernel_rfl
set_option maxRecDepth 100000 in
set_option maxHeartbeats 8000000 in
theorem ropen_err (M : Nat) (v : Value) (key B : List Int) (w : World) (hkey : key.length = 32 ∧ Bytes key) (h : HoldsB w M v B) (hM : M ≤ w.heap.size) (hr : B.length ≤ 140737488351232) (h0 : tErr B ≠ 0) : Calls Tryd.prog 17 #[dgV key, v] w (OpenPost key B w) := by
  have HNE0 := Kp.mk h0
  have HOE0 : Kp (oErr key B = tErr B) := ⟨by unfold oErr; rw [if_pos h0]⟩
  clear h0
  have H := Kp.mk h
  have HL := Kp.mk hr
  have HKEY := Kp.mk hkey
  have hC := fun (w : World) => box_row (t := 22) (cs := kv .u8 key) (cells22 hkey.1) w
  obtain ⟨va, vn, vc, rfl, hvn⟩ := h.slice
  have HVN : Kp (vn = B.length) := ⟨by omega⟩
  obtain ⟨K, hK⟩ : ∃ K, K = w.heap.size := ⟨_, rfl⟩
  have HK := Kp.mk hK
  have HMK : Kp (M ≤ K) := ⟨by omega⟩
  have hs22 := slice22_all K
  have hb26 := build26z
  clear h hr hK hkey hvn hM
  go_enter Tryd.func17, Tryd.ntmps17
  go_wp2_with (refine wpList_box_eq rfl 22 (.tmp 0) rfl _ rfl _ _ (hC _) ?_; rw [← HK.out]; refine wpl_world (fun w2 => Row w2 K 22 .u8 key ∧ Below K w w2 ∧ K + 1 = w2.heap.size ∧ HoldsB w2 M (.slice va vn vc) B) ⟨Blk.newAt _ HK.out, by rw [HK.out]; exact more (Below.refl _ _) _, by simp [HK.out], H.out.alloc _⟩ ?_; rintro W1 ⟨h0, h1, h2, h3⟩; have K0 := Kp.mk h0; have K1 := Kp.mk h1; have K2 := Kp.mk h2; have K3 := Kp.mk h3; clear h0 h1 h2 h3)
  clear hC
  refine (rpeek_any M _ B _ (K3.out.alloc RZ26) (by have := HMK.out; have := K2.out; simp; omega)).mono ?_
  rintro r w1 ⟨a, c, rfl, hh, hb⟩
  rw [← K2.out]
  obtain ⟨p, hp⟩ : ∃ p, p = xF B a c := ⟨_, rfl⟩
  obtain ⟨G, hG⟩ : ∃ G, G = tTag B := ⟨_, rfl⟩
  obtain ⟨E, hE⟩ : ∃ E, E = tErr B := ⟨_, rfl⟩
  have HP := Kp.mk hp
  have HE := Kp.mk hE
  have HG := Kp.mk hG
  have HGL : Kp (G.length = 16) := ⟨by rw [hG]; exact tTag_len B⟩
  rw [← hp, ← hG, ← hE]
  clear hp hG hE
  have Q0 : Kp (Row w1 K 22 .u8 key) := ⟨(K0.out.alloc _).keep hb⟩
  have Q1 : Kp (Blk w1 (K + 1) RZ26) := ⟨(Blk.newAt _ K2.out).keep hb⟩
  have Q2 : Kp (Below K w w1) := ⟨(K1.out.alloc (by have := K2.out; omega) _).trans (hb.mono (by have := K2.out; simp; omega))⟩
  have QB : Kp (HoldsB w1 M (.slice va vn vc) B) := ⟨(K3.out.alloc RZ26).keep hb⟩
  have HH := Kp.mk hh
  clear hh hb K0 K1 K2 K3
  obtain ⟨N1, hN1⟩ : ∃ N1, N1 = w1.heap.size := ⟨_, rfl⟩
  have HN1 := Kp.mk hN1
  have HFN : Kp (K + 1 < N1) := ⟨by rw [hN1]; exact Q1.out.lt⟩
  clear hN1
  have HNE : Kp (E ≠ 0) := ⟨by rw [HE.out]; exact HNE0.out⟩
  have HOE : Kp (oErr key B = E) := ⟨by rw [HE.out]; exact HOE0.out⟩
  unfold FV.v
  have hne : (E != 0) = true := by have := HNE.out; simpa using this
  have hne2 : (E == 0) = false := by have := HNE.out; simpa using this
  go_wp2_with (first
    | (refine wpList_alloc_row rfl 40 rfl _ _ infoz40 ?_; rw [show (w1.alloc RZ26).heap.size = N1 + 1 by rw [HN1.out]; simp, ← HN1.out]; refine wpl_world (w := (w1.alloc RZ26).alloc (.cells (kv .u8 (fill 16 [])).toArray 40)) (fun W => Blk W N1 RZ26 ∧ Row W (N1 + 1) 40 .u8 (fill 16 []) ∧ Blk W (K + 1) RZ26 ∧ Below K w W ∧ HoldsB W N1 (.slice a (xT B).length c) (xT B) ∧ Row W K 22 .u8 key ∧ HoldsB W M (.slice va vn vc) B) ⟨(Blk.newAt _ HN1.out).old _, Blk.newAt _ (by rw [HN1.out]; simp), (Q1.out.old _).old _, (Q2.out.alloc (by have := HFN.out; have := HN1.out; omega) _).alloc (by have := HFN.out; have := HN1.out; simp; omega) _, by rw [HN1.out]; exact (HH.out.alloc _).alloc _, (Q0.out.alloc _).alloc _, (QB.out.alloc _).alloc _⟩ ?_; rintro w2 h2; have H2 := Kp.mk h2; clear h2)
    | (refine wpList_store_row rfl 26 (.tmp 6) (.tmp 12) rfl N1 #[.int .i64 p.fr, .int .i64 p.to, .int .u64 p.bo, .int .u64 p.co, .int .i64 p.ki, .slice p.a p.n p.c] rfl rfl 26 _ H2.out.1 info26s rfl (six_one _ _ _ _ _ _ _ _) ?_; refine wpl_world (w := w2.setRow N1 #[.int .i64 p.fr, .int .i64 p.to, .int .u64 p.bo, .int .u64 p.co, .int .i64 p.ki, .slice p.a p.n p.c]) (fun W => Blk W N1 (p.box 26) ∧ Row W (N1 + 1) 40 .u8 (fill 16 []) ∧ Blk W (K + 1) RZ26 ∧ Below K w W ∧ HoldsB W N1 (.slice a (xT B).length c) (xT B) ∧ Row W K 22 .u8 key ∧ HoldsB W M (.slice va vn vc) B) ⟨(Turn.ofRow H2.out.1 _).blk, (Turn.ofRow H2.out.1 _).keep H2.out.2.1 (by omega), (Turn.ofRow H2.out.1 _).keep H2.out.2.2.1 (Nat.ne_of_lt HFN.out), H2.out.2.2.2.1.trans ((Turn.ofRow H2.out.1 _).below (by have := HFN.out; omega) (by have := H2.out.2.2.1.lt; omega)), H2.out.2.2.2.2.1.turn (Turn.ofRow H2.out.1 _) (Nat.le_refl _), (Turn.ofRow H2.out.1 _).keep H2.out.2.2.2.2.2.1 (by have := HFN.out; omega), H2.out.2.2.2.2.2.2.turn (Turn.ofRow H2.out.1 _) (by have := HFN.out; have := HMK.out; omega)⟩ ?_; rintro w3 h3; have H3 := Kp.mk h3; clear h3)
    | (refine wpList_store_row rfl 40 (.tmp 7) (.tmp 13) rfl (N1 + 1) (kv .u8 G).toArray rfl rfl 40 _ H3.out.2.1 (cells40 HGL.out) (size83 HGL.out) (kv_all _ _) ?_; refine wpl_world (w := w3.setRow (N1 + 1) (kv .u8 G).toArray) (fun W => Blk W N1 (p.box 26) ∧ Row W (N1 + 1) 40 .u8 G ∧ Blk W (K + 1) RZ26 ∧ Below K w W ∧ HoldsB W N1 (.slice a (xT B).length c) (xT B) ∧ Row W K 22 .u8 key ∧ HoldsB W M (.slice va vn vc) B) ⟨(Turn.ofRow H3.out.2.1 _).keep H3.out.1 (by omega), H3.out.2.1.setRow G, (Turn.ofRow H3.out.2.1 _).keep H3.out.2.2.1 (by have := HFN.out; omega), H3.out.2.2.2.1.trans ((Turn.ofRow H3.out.2.1 _).below (by have := HFN.out; omega) (by have := H3.out.2.2.1.lt; omega)), H3.out.2.2.2.2.1.turn (Turn.ofRow H3.out.2.1 _) (Nat.le_succ _), (Turn.ofRow H3.out.2.1 _).keep H3.out.2.2.2.2.2.1 (by have := HFN.out; omega), H3.out.2.2.2.2.2.2.turn (Turn.ofRow H3.out.2.1 _) (by have := HFN.out; have := HMK.out; omega)⟩ ?_; rintro w4 h4; have H4 := Kp.mk h4; clear h4)
    | (refine wpList_store_row rfl 26 (.tmp 4) (.tmp 17) rfl (K + 1) #[.int .i64 0, .int .i64 0, .int .u64 0, .int .u64 0, .int .i64 0, .slice none 0 0] rfl rfl 26 _ H4.out.2.2.1 info26s rfl (six_one _ _ _ _ _ _ _ _) ?_; refine wpl_world (w := w4.setRow (K + 1) #[.int .i64 0, .int .i64 0, .int .u64 0, .int .u64 0, .int .i64 0, .slice none 0 0]) (fun W => Blk W (K + 1) (.cells #[.int .i64 0, .int .i64 0, .int .u64 0, .int .u64 0, .int .i64 0, .slice none 0 0] 26) ∧ Below K w W ∧ HoldsB W N1 (.slice a (xT B).length c) (xT B) ∧ N1 ≤ W.heap.size) ⟨(Turn.ofRow H4.out.2.2.1 _).blk, H4.out.2.2.2.1.trans ((Turn.ofRow H4.out.2.2.1 _).below (by omega) (by have := H4.out.2.2.1.lt; omega)), hoff H4.out.2.2.1 H4.out.2.2.2.2.1, by have := H4.out.1.lt; simp [World.setRow]; omega⟩ ?_; rintro w6 h6; have H6 := Kp.mk h6; clear h6))
  exact bodyPost_ret (results_row_tmp rfl _ _ (K + 1) 26 _ (0, 0) _ (.int .i64 E) rfl rfl H6.out.1 Tryd.underlying26 rfl info26s) rfl ⟨none, 0, yzero_post HOE.out HNE.out, by rw [yT_zero HOE.out HNE.out]; exact HoldsB.nil _ _, by rw [← HK.out]; exact H6.out.2.1⟩
set_option maxRecDepth 100000 in
set_option maxHeartbeats 8000000 in
theorem ropen_bad (M : Nat) (v : Value) (key B : List Int) (w : World) (hkey : key.length = 32 ∧ Bytes key) (h : HoldsB w M v B) (hM : M ≤ w.heap.size) (hr : B.length ≤ 140737488351232) (h0 : tErr B = 0) (n16 : Nat) (hn16 : n16 = B.length - 16) (h16 : 16 ≤ B.length) (L : List Int) (hLE : L = B.take n16) (T : List Int) (hT : T = tagM key L) (hq : decide (tTag B = T) = false) : Calls Tryd.prog 17 #[dgV key, v] w (OpenPost key B w) := by
  have HN16 : Kp (n16 = B.length - 16 ∧ 16 ≤ B.length) := ⟨hn16, h16⟩
  have HLE : Kp (L = B.take n16) := ⟨hLE⟩
  have HLN : Kp (L.length ≤ B.length) := ⟨by rw [hLE, List.length_take]; omega⟩
  have HTQ : Kp (T = tagM key L) := ⟨hT⟩
  have HT : Kp (T = halfL (macL key L)) := ⟨hT⟩
  have HTL : Kp (T.length = 16 ∧ Bytes T) := ⟨by rw [hT]; exact ⟨tagM_len _ _, tagM_bytes _ _⟩⟩
  clear hn16 h16 hLE hT
  have H00 := Kp.mk h0
  have HEQ := Kp.mk hq
  clear h0 hq
  have H := Kp.mk h
  have HL := Kp.mk hr
  have HKEY := Kp.mk hkey
  have hC := fun (w : World) => box_row (t := 22) (cs := kv .u8 key) (cells22 hkey.1) w
  obtain ⟨va, vn, vc, rfl, hvn⟩ := h.slice
  have HVN : Kp (vn = B.length) := ⟨by omega⟩
  obtain ⟨K, hK⟩ : ∃ K, K = w.heap.size := ⟨_, rfl⟩
  have HK := Kp.mk hK
  have HMK : Kp (M ≤ K) := ⟨by omega⟩
  have hs22 := slice22_all K
  have hb26 := build26z
  clear h hr hK hkey hvn hM
  go_enter Tryd.func17, Tryd.ntmps17
  go_wp2_with (refine wpList_box_eq rfl 22 (.tmp 0) rfl _ rfl _ _ (hC _) ?_; rw [← HK.out]; refine wpl_world (fun w2 => Row w2 K 22 .u8 key ∧ Below K w w2 ∧ K + 1 = w2.heap.size ∧ HoldsB w2 M (.slice va vn vc) B) ⟨Blk.newAt _ HK.out, by rw [HK.out]; exact more (Below.refl _ _) _, by simp [HK.out], H.out.alloc _⟩ ?_; rintro W1 ⟨h0, h1, h2, h3⟩; have K0 := Kp.mk h0; have K1 := Kp.mk h1; have K2 := Kp.mk h2; have K3 := Kp.mk h3; clear h0 h1 h2 h3)
  clear hC
  refine (rpeek_any M _ B _ (K3.out.alloc RZ26) (by have := HMK.out; have := K2.out; simp; omega)).mono ?_
  rintro r w1 ⟨a, c, rfl, hh, hb⟩
  rw [← K2.out]
  obtain ⟨p, hp⟩ : ∃ p, p = xF B a c := ⟨_, rfl⟩
  obtain ⟨G, hG⟩ : ∃ G, G = tTag B := ⟨_, rfl⟩
  obtain ⟨E, hE⟩ : ∃ E, E = tErr B := ⟨_, rfl⟩
  have HP := Kp.mk hp
  have HE := Kp.mk hE
  have HG := Kp.mk hG
  have HGL : Kp (G.length = 16) := ⟨by rw [hG]; exact tTag_len B⟩
  rw [← hp, ← hG, ← hE]
  clear hp hG hE
  have Q0 : Kp (Row w1 K 22 .u8 key) := ⟨(K0.out.alloc _).keep hb⟩
  have Q1 : Kp (Blk w1 (K + 1) RZ26) := ⟨(Blk.newAt _ K2.out).keep hb⟩
  have Q2 : Kp (Below K w w1) := ⟨(K1.out.alloc (by have := K2.out; omega) _).trans (hb.mono (by have := K2.out; simp; omega))⟩
  have QB : Kp (HoldsB w1 M (.slice va vn vc) B) := ⟨(K3.out.alloc RZ26).keep hb⟩
  have HH := Kp.mk hh
  clear hh hb K0 K1 K2 K3
  obtain ⟨N1, hN1⟩ : ∃ N1, N1 = w1.heap.size := ⟨_, rfl⟩
  have HN1 := Kp.mk hN1
  have HFN : Kp (K + 1 < N1) := ⟨by rw [hN1]; exact Q1.out.lt⟩
  clear hN1
  have HGQ : Kp (G = tTag B) := ⟨by exact HG.out⟩
  have HGB : Kp (Bytes G) := ⟨by rw [HGQ.out]; exact rsumP_bytes H.out.bytes _ _⟩
  have HGT : Kp (decide (G = T) = false) := ⟨by rw [HGQ.out]; exact HEQ.out⟩
  have HE0 : E = 0 := by rw [HE.out]; exact H00.out
  subst HE0
  have HPA : Kp (Value.slice p.a p.n p.c = .slice a (xT B).length c) := ⟨by rw [HP.out]; rfl⟩
  have hxF : p = tF B a c := by
    rw [HP.out]
    unfold xF xX xT tF
    rw [if_pos H00.out, if_pos H00.out, if_pos H00.out, if_pos H00.out, if_pos H00.out, if_pos H00.out]
  have hxT : xT B = tBody B := by unfold xT; rw [if_pos H00.out]
  have htl := taken_laid H.out.bytes H00.out
  have HRB : Kp (frB p = true) := ⟨by rw [hxF]; exact htl.2.2.2.1⟩
  have HBP : Kp (BigP p) := ⟨by rw [hxF]; exact ⟨big_lt H.out.bytes _ _, big_lt H.out.bytes _ _⟩⟩
  have HLL : Kp (laidM p (xT B) = L) := ⟨by rw [hxF, hxT, HLE.out, HN16.out.1]; exact htl.2.1⟩
  have hnq : ∀ w, (binOp .neq 40 (dgV T) (dgV G)).run Tryd.prog w = .ok (.bool true) w := fun w => by
    have := neq40 HTL.out.2 HGB.out HTL.out.1 HGL.out w
    rw [this, show decide (T = G) = false by rw [← HGT.out]; exact decide_eq_decide.2 ⟨Eq.symm, Eq.symm⟩]
    rfl
  have hng := neg40 T G
  clear hxF hxT htl
  unfold FV.v
  go_wp2_with (first
    | (refine wpList_alloc_row rfl 40 rfl _ _ infoz40 ?_; rw [show (w1.alloc RZ26).heap.size = N1 + 1 by rw [HN1.out]; simp, ← HN1.out]; refine wpl_world (w := (w1.alloc RZ26).alloc (.cells (kv .u8 (fill 16 [])).toArray 40)) (fun W => Blk W N1 RZ26 ∧ Row W (N1 + 1) 40 .u8 (fill 16 []) ∧ Blk W (K + 1) RZ26 ∧ Below K w W ∧ HoldsB W N1 (.slice a (xT B).length c) (xT B) ∧ Row W K 22 .u8 key ∧ HoldsB W M (.slice va vn vc) B) ⟨(Blk.newAt _ HN1.out).old _, Blk.newAt _ (by rw [HN1.out]; simp), (Q1.out.old _).old _, (Q2.out.alloc (by have := HFN.out; have := HN1.out; omega) _).alloc (by have := HFN.out; have := HN1.out; simp; omega) _, by rw [HN1.out]; exact (HH.out.alloc _).alloc _, (Q0.out.alloc _).alloc _, (QB.out.alloc _).alloc _⟩ ?_; rintro w2 h2; have H2 := Kp.mk h2; clear h2)
    | (refine wpList_store_row rfl 26 (.tmp 6) (.tmp 12) rfl N1 #[.int .i64 p.fr, .int .i64 p.to, .int .u64 p.bo, .int .u64 p.co, .int .i64 p.ki, .slice p.a p.n p.c] rfl rfl 26 _ H2.out.1 info26s rfl (six_one _ _ _ _ _ _ _ _) ?_; refine wpl_world (w := w2.setRow N1 #[.int .i64 p.fr, .int .i64 p.to, .int .u64 p.bo, .int .u64 p.co, .int .i64 p.ki, .slice p.a p.n p.c]) (fun W => Blk W N1 (p.box 26) ∧ Row W (N1 + 1) 40 .u8 (fill 16 []) ∧ Blk W (K + 1) RZ26 ∧ Below K w W ∧ HoldsB W N1 (.slice a (xT B).length c) (xT B) ∧ Row W K 22 .u8 key ∧ HoldsB W M (.slice va vn vc) B) ⟨(Turn.ofRow H2.out.1 _).blk, (Turn.ofRow H2.out.1 _).keep H2.out.2.1 (by omega), (Turn.ofRow H2.out.1 _).keep H2.out.2.2.1 (Nat.ne_of_lt HFN.out), H2.out.2.2.2.1.trans ((Turn.ofRow H2.out.1 _).below (by have := HFN.out; omega) (by have := H2.out.2.2.1.lt; omega)), H2.out.2.2.2.2.1.turn (Turn.ofRow H2.out.1 _) (Nat.le_refl _), (Turn.ofRow H2.out.1 _).keep H2.out.2.2.2.2.2.1 (by have := HFN.out; omega), H2.out.2.2.2.2.2.2.turn (Turn.ofRow H2.out.1 _) (by have := HFN.out; have := HMK.out; omega)⟩ ?_; rintro w3 h3; have H3 := Kp.mk h3; clear h3)
    | (refine wpList_store_row rfl 40 (.tmp 7) (.tmp 13) rfl (N1 + 1) (kv .u8 G).toArray rfl rfl 40 _ H3.out.2.1 (cells40 HGL.out) (size83 HGL.out) (kv_all _ _) ?_; refine wpl_world (w := w3.setRow (N1 + 1) (kv .u8 G).toArray) (fun W => Blk W N1 (p.box 26) ∧ Row W (N1 + 1) 40 .u8 G ∧ Blk W (K + 1) RZ26 ∧ Below K w W ∧ HoldsB W N1 (.slice a (xT B).length c) (xT B) ∧ Row W K 22 .u8 key ∧ HoldsB W M (.slice va vn vc) B) ⟨(Turn.ofRow H3.out.2.1 _).keep H3.out.1 (by omega), H3.out.2.1.setRow G, (Turn.ofRow H3.out.2.1 _).keep H3.out.2.2.1 (by have := HFN.out; omega), H3.out.2.2.2.1.trans ((Turn.ofRow H3.out.2.1 _).below (by have := HFN.out; omega) (by have := H3.out.2.2.1.lt; omega)), H3.out.2.2.2.2.1.turn (Turn.ofRow H3.out.2.1 _) (Nat.le_succ _), (Turn.ofRow H3.out.2.1 _).keep H3.out.2.2.2.2.2.1 (by have := HFN.out; omega), H3.out.2.2.2.2.2.2.turn (Turn.ofRow H3.out.2.1 _) (by have := HFN.out; have := HMK.out; omega)⟩ ?_; rintro w4 h4; have H4 := Kp.mk h4; clear h4))
  refine wp_region_pred (fun w' => Blk w' N1 (p.box 26) ∧ Row w' (N1 + 1) 40 .u8 G ∧ Blk w' (K + 1) RZ26 ∧ Below K w w' ∧ HoldsB w' N1 (.slice a (xT B).length c) (xT B) ∧ Row w' K 22 .u8 key) [0, 1, 2, 3, 4, 5] []
    (fun ι w' v => match ι with
      | 0 => v = .slice (some ⟨K, 0, none⟩) 32 32
      | 1 => v = .agg #[.int .i64 p.fr, .int .i64 p.to, .int .u64 p.bo, .int .u64 p.co, .int .i64 p.ki, .slice p.a p.n p.c]
      | 3 => v = dgV T
      | 4 => v = dgV G
      | 2 => HoldsB w' w'.heap.size v L
      | _ => v = .bool true)
    [[], [], [(1, some 20)], [(0, some 19), (2, some 21)], [], [(3, some 22), (4, some 23)]]
    [(0, some 19), (1, some 20), (2, some 21), (3, some 22), (4, some 23), (5, some 24)]
    (by kernel_rfl) (by kernel_rfl) (by kernel_rfl) (by kernel_rfl) (by kernel_rfl) (by kernel_rfl) (by decide) (by decide) (fun w1 w2 h hb => ⟨h.1.keep hb, h.2.1.keep hb, h.2.2.1.keep hb, h.2.2.2.1.trans (hb.mono (by have := h.2.2.1.lt; omega)), h.2.2.2.2.1.keep hb, h.2.2.2.2.2.keep hb⟩) ?_ ⟨H4.out.1, H4.out.2.1.drew, H4.out.2.2.1, H4.out.2.2.2.1.drew, H4.out.2.2.2.2.1.drew, H4.out.2.2.2.2.2.1.drew⟩ ?_ ?_
  · intro ι w1 w2 v h hb
    by_cases h2 : ι = 2
    · subst h2
      exact (h.grow hb)
    match ι, h2, h with
    | 0, _, h => exact h
    | 1, _, h => exact h
    | 2, g, h => exact absurd rfl g
    | 3, _, h => exact h
    | 4, _, h => exact h
    | 5, _, h => exact h
    | _ + 6, _, h => exact h
  · refine ⟨fun γ wx hS h => ?_, fun γ wx hS h => ?_, fun γ wx hS h => ?_, fun γ wx hS h => ?_, fun γ wx hS h => ?_, fun γ wx hS h => ?_, trivial⟩
    · have hs := hs22
      refine ⟨_, rfl, ?_⟩
      refine predOp_val (v := .slice (some ⟨K, 0, none⟩) 32 32) ?_ ?_ ?_
      · kernel_rfl
      · simp only [putE]
        go_simp
      · rfl
    · refine ⟨_, rfl, Or.inl ⟨rfl, predRun_value (exec_load_blk 26 (.tmp 6) rfl (N1) rfl 26 _ (0, 0) _ hS.1 Tryd.underlying26 rfl info26s) rfl⟩⟩
    · have h1 := h
      have e1 : γ 1 = .agg #[.int .i64 p.fr, .int .i64 p.to, .int .u64 p.bo, .int .u64 p.co, .int .i64 p.ki, .slice p.a p.n p.c] := h1
      refine ⟨_, rfl, Or.inl ⟨rfl, predRun_call (f := 37) (args := #[.agg #[.int .i64 p.fr, .int .i64 p.to, .int .u64 p.bo, .int .u64 p.co, .int .i64 p.ki, .slice p.a p.n p.c]]) (by simp only [putE, e1]; go_simp) ?_⟩⟩
      exact (rbytes_any p (xT B) wx (by rw [HPA.out]; exact hS.2.2.2.2.1.mono (Nat.le_of_lt hS.1.lt)) HRB.out HBP.out).mono fun r w9 ⟨v', h1, h2, h3⟩ => ⟨v', h1, by rw [← HLL.out]; exact h2, h3⟩
    · obtain ⟨h0, h2⟩ := h
      have e0 : γ 0 = .slice (some ⟨K, 0, none⟩) 32 32 := h0
      have p2 : HoldsB wx wx.heap.size (γ 2) L := h2
      refine ⟨_, rfl, Or.inl ⟨rfl, predRun_call (f := 38) (args := #[.slice (some ⟨K, 0, none⟩) 32 32, γ 2]) (by simp only [putE, e0]; go_simp) ?_⟩⟩
      have hkh : HoldsB wx wx.heap.size (.slice (some ⟨K, 0, none⟩) 32 32) key := by
        have := HoldsB.ofBytes hS.2.2.2.2.2 HKEY.out.2 (by rw [HKEY.out.1]; decide)
        rw [HKEY.out.1] at this
        exact this
      have hq := rtag_any wx.heap.size wx.heap.size _ _ key L wx hkh p2 (by rw [HKEY.out.1]; decide) (by have := HLN.out; have := HL.out; omega)
      rw [show halfL (macL key L) = T from HT.out.symm] at hq
      exact hq.mono fun r w9 ⟨h1, h2⟩ => ⟨_, h1, rfl, h2⟩
    · refine ⟨_, rfl, Or.inl ⟨rfl, predRun_value (exec_load_blk 40 (.tmp 7) rfl (N1 + 1) rfl 40 _ (0, 0) _ hS.2.1 Tryd.underlying40 rfl (cells40 HGL.out)) rfl⟩⟩
    · obtain ⟨h3, h4⟩ := h
      have e3 : γ 3 = dgV T := h3
      have e4 : γ 4 = dgV G := h4
      have hq := hnq
      have hg := hng
      refine ⟨_, rfl, ?_⟩
      refine predOp_val (v := .bool true) ?_ ?_ ?_
      · kernel_rfl
      · simp only [putE, e3, e4]
        go_simp
      · rfl
  · intro γ w9 hS h
    have h5 := h.2.2.2.2.2
    have H5 := Kp.mk hS
    simp only [putE, Act.put, List.setIfInBounds_toArray, List.set_cons_zero, List.set_cons_succ]
    rw [h5]
    clear h hS h5
    refine wpOps_done ?_
    go_wp2_with (first
      | (refine wpList_store_row rfl 26 (.tmp 4) (.tmp 25) rfl (K + 1) #[.int .i64 0, .int .i64 0, .int .u64 0, .int .u64 0, .int .i64 0, .slice none 0 0] rfl rfl 26 _ H5.out.2.2.1 info26s rfl (six_one _ _ _ _ _ _ _ _) ?_; refine wpl_world (w := w9.setRow (K + 1) #[.int .i64 0, .int .i64 0, .int .u64 0, .int .u64 0, .int .i64 0, .slice none 0 0]) (fun W => Blk W (K + 1) (.cells #[.int .i64 0, .int .i64 0, .int .u64 0, .int .u64 0, .int .i64 0, .slice none 0 0] 26) ∧ Below K w W ∧ HoldsB W N1 (.slice a (xT B).length c) (xT B) ∧ N1 ≤ W.heap.size) ⟨(Turn.ofRow H5.out.2.2.1 _).blk, H5.out.2.2.2.1.trans ((Turn.ofRow H5.out.2.2.1 _).below (by omega) (by have := H5.out.2.2.1.lt; omega)), hoff H5.out.2.2.1 H5.out.2.2.2.2.1, by have := H5.out.1.lt; simp [World.setRow]; omega⟩ ?_; rintro w6 h6; have H6 := Kp.mk h6; clear h6))
    have HOE : Kp (oErr key B = 24) := ⟨by unfold oErr; rw [if_neg (by simp [H00.out]), ← HN16.out.1, ← HLE.out, ← HTQ.out, if_neg (of_decide_eq_false HEQ.out)]⟩
    exact bodyPost_ret (results_row_tmp rfl _ _ (K + 1) 26 _ (0, 0) _ (.int .i64 24) rfl rfl H6.out.1 Tryd.underlying26 rfl info26s) rfl ⟨none, 0, yzero_post HOE.out (by decide), by rw [yT_zero HOE.out (by decide)]; exact HoldsB.nil _ _, by rw [← HK.out]; exact H6.out.2.1⟩
    
set_option maxRecDepth 100000 in
set_option maxHeartbeats 8000000 in
theorem ropen_good (M : Nat) (v : Value) (key B : List Int) (w : World) (hkey : key.length = 32 ∧ Bytes key) (h : HoldsB w M v B) (hM : M ≤ w.heap.size) (hr : B.length ≤ 140737488351232) (h0 : tErr B = 0) (n16 : Nat) (hn16 : n16 = B.length - 16) (h16 : 16 ≤ B.length) (L : List Int) (hLE : L = B.take n16) (T : List Int) (hT : T = tagM key L) (hq : decide (tTag B = T) = true) : Calls Tryd.prog 17 #[dgV key, v] w (OpenPost key B w) := by
  have HN16 : Kp (n16 = B.length - 16 ∧ 16 ≤ B.length) := ⟨hn16, h16⟩
  have HLE : Kp (L = B.take n16) := ⟨hLE⟩
  have HLN : Kp (L.length ≤ B.length) := ⟨by rw [hLE, List.length_take]; omega⟩
  have HTQ : Kp (T = tagM key L) := ⟨hT⟩
  have HT : Kp (T = halfL (macL key L)) := ⟨hT⟩
  have HTL : Kp (T.length = 16 ∧ Bytes T) := ⟨by rw [hT]; exact ⟨tagM_len _ _, tagM_bytes _ _⟩⟩
  clear hn16 h16 hLE hT
  have H00 := Kp.mk h0
  have HEQ := Kp.mk hq
  clear h0 hq
  have H := Kp.mk h
  have HL := Kp.mk hr
  have HKEY := Kp.mk hkey
  have hC := fun (w : World) => box_row (t := 22) (cs := kv .u8 key) (cells22 hkey.1) w
  obtain ⟨va, vn, vc, rfl, hvn⟩ := h.slice
  have HVN : Kp (vn = B.length) := ⟨by omega⟩
  obtain ⟨K, hK⟩ : ∃ K, K = w.heap.size := ⟨_, rfl⟩
  have HK := Kp.mk hK
  have HMK : Kp (M ≤ K) := ⟨by omega⟩
  have hs22 := slice22_all K
  have hb26 := build26z
  clear h hr hK hkey hvn hM
  go_enter Tryd.func17, Tryd.ntmps17
  go_wp2_with (refine wpList_box_eq rfl 22 (.tmp 0) rfl _ rfl _ _ (hC _) ?_; rw [← HK.out]; refine wpl_world (fun w2 => Row w2 K 22 .u8 key ∧ Below K w w2 ∧ K + 1 = w2.heap.size ∧ HoldsB w2 M (.slice va vn vc) B) ⟨Blk.newAt _ HK.out, by rw [HK.out]; exact more (Below.refl _ _) _, by simp [HK.out], H.out.alloc _⟩ ?_; rintro W1 ⟨h0, h1, h2, h3⟩; have K0 := Kp.mk h0; have K1 := Kp.mk h1; have K2 := Kp.mk h2; have K3 := Kp.mk h3; clear h0 h1 h2 h3)
  clear hC
  refine (rpeek_any M _ B _ (K3.out.alloc RZ26) (by have := HMK.out; have := K2.out; simp; omega)).mono ?_
  rintro r w1 ⟨a, c, rfl, hh, hb⟩
  rw [← K2.out]
  obtain ⟨p, hp⟩ : ∃ p, p = xF B a c := ⟨_, rfl⟩
  obtain ⟨G, hG⟩ : ∃ G, G = tTag B := ⟨_, rfl⟩
  obtain ⟨E, hE⟩ : ∃ E, E = tErr B := ⟨_, rfl⟩
  have HP := Kp.mk hp
  have HE := Kp.mk hE
  have HG := Kp.mk hG
  have HGL : Kp (G.length = 16) := ⟨by rw [hG]; exact tTag_len B⟩
  rw [← hp, ← hG, ← hE]
  clear hp hG hE
  have Q0 : Kp (Row w1 K 22 .u8 key) := ⟨(K0.out.alloc _).keep hb⟩
  have Q1 : Kp (Blk w1 (K + 1) RZ26) := ⟨(Blk.newAt _ K2.out).keep hb⟩
  have Q2 : Kp (Below K w w1) := ⟨(K1.out.alloc (by have := K2.out; omega) _).trans (hb.mono (by have := K2.out; simp; omega))⟩
  have QB : Kp (HoldsB w1 M (.slice va vn vc) B) := ⟨(K3.out.alloc RZ26).keep hb⟩
  have HH := Kp.mk hh
  clear hh hb K0 K1 K2 K3
  obtain ⟨N1, hN1⟩ : ∃ N1, N1 = w1.heap.size := ⟨_, rfl⟩
  have HN1 := Kp.mk hN1
  have HFN : Kp (K + 1 < N1) := ⟨by rw [hN1]; exact Q1.out.lt⟩
  clear hN1
  have HGQ : Kp (G = tTag B) := ⟨by exact HG.out⟩
  have HGB : Kp (Bytes G) := ⟨by rw [HGQ.out]; exact rsumP_bytes H.out.bytes _ _⟩
  have HGT : Kp (decide (G = T) = true) := ⟨by rw [HGQ.out]; exact HEQ.out⟩
  have HE0 : E = 0 := by rw [HE.out]; exact H00.out
  subst HE0
  have HPA : Kp (Value.slice p.a p.n p.c = .slice a (xT B).length c) := ⟨by rw [HP.out]; rfl⟩
  have hxF : p = tF B a c := by
    rw [HP.out]
    unfold xF xX xT tF
    rw [if_pos H00.out, if_pos H00.out, if_pos H00.out, if_pos H00.out, if_pos H00.out, if_pos H00.out]
  have hxT : xT B = tBody B := by unfold xT; rw [if_pos H00.out]
  have htl := taken_laid H.out.bytes H00.out
  have HRB : Kp (frB p = true) := ⟨by rw [hxF]; exact htl.2.2.2.1⟩
  have HBP : Kp (BigP p) := ⟨by rw [hxF]; exact ⟨big_lt H.out.bytes _ _, big_lt H.out.bytes _ _⟩⟩
  have HLL : Kp (laidM p (xT B) = L) := ⟨by rw [hxF, hxT, HLE.out, HN16.out.1]; exact htl.2.1⟩
  have hnq : ∀ w, (binOp .neq 40 (dgV T) (dgV G)).run Tryd.prog w = .ok (.bool false) w := fun w => by
    have := neq40 HTL.out.2 HGB.out HTL.out.1 HGL.out w
    rw [this, show decide (T = G) = true by rw [← HGT.out]; exact decide_eq_decide.2 ⟨Eq.symm, Eq.symm⟩]
    rfl
  have hng := neg40 T G
  clear hxF hxT htl
  unfold FV.v
  go_wp2_with (first
    | (refine wpList_alloc_row rfl 40 rfl _ _ infoz40 ?_; rw [show (w1.alloc RZ26).heap.size = N1 + 1 by rw [HN1.out]; simp, ← HN1.out]; refine wpl_world (w := (w1.alloc RZ26).alloc (.cells (kv .u8 (fill 16 [])).toArray 40)) (fun W => Blk W N1 RZ26 ∧ Row W (N1 + 1) 40 .u8 (fill 16 []) ∧ Blk W (K + 1) RZ26 ∧ Below K w W ∧ HoldsB W N1 (.slice a (xT B).length c) (xT B) ∧ Row W K 22 .u8 key ∧ HoldsB W M (.slice va vn vc) B) ⟨(Blk.newAt _ HN1.out).old _, Blk.newAt _ (by rw [HN1.out]; simp), (Q1.out.old _).old _, (Q2.out.alloc (by have := HFN.out; have := HN1.out; omega) _).alloc (by have := HFN.out; have := HN1.out; simp; omega) _, by rw [HN1.out]; exact (HH.out.alloc _).alloc _, (Q0.out.alloc _).alloc _, (QB.out.alloc _).alloc _⟩ ?_; rintro w2 h2; have H2 := Kp.mk h2; clear h2)
    | (refine wpList_store_row rfl 26 (.tmp 6) (.tmp 12) rfl N1 #[.int .i64 p.fr, .int .i64 p.to, .int .u64 p.bo, .int .u64 p.co, .int .i64 p.ki, .slice p.a p.n p.c] rfl rfl 26 _ H2.out.1 info26s rfl (six_one _ _ _ _ _ _ _ _) ?_; refine wpl_world (w := w2.setRow N1 #[.int .i64 p.fr, .int .i64 p.to, .int .u64 p.bo, .int .u64 p.co, .int .i64 p.ki, .slice p.a p.n p.c]) (fun W => Blk W N1 (p.box 26) ∧ Row W (N1 + 1) 40 .u8 (fill 16 []) ∧ Blk W (K + 1) RZ26 ∧ Below K w W ∧ HoldsB W N1 (.slice a (xT B).length c) (xT B) ∧ Row W K 22 .u8 key ∧ HoldsB W M (.slice va vn vc) B) ⟨(Turn.ofRow H2.out.1 _).blk, (Turn.ofRow H2.out.1 _).keep H2.out.2.1 (by omega), (Turn.ofRow H2.out.1 _).keep H2.out.2.2.1 (Nat.ne_of_lt HFN.out), H2.out.2.2.2.1.trans ((Turn.ofRow H2.out.1 _).below (by have := HFN.out; omega) (by have := H2.out.2.2.1.lt; omega)), H2.out.2.2.2.2.1.turn (Turn.ofRow H2.out.1 _) (Nat.le_refl _), (Turn.ofRow H2.out.1 _).keep H2.out.2.2.2.2.2.1 (by have := HFN.out; omega), H2.out.2.2.2.2.2.2.turn (Turn.ofRow H2.out.1 _) (by have := HFN.out; have := HMK.out; omega)⟩ ?_; rintro w3 h3; have H3 := Kp.mk h3; clear h3)
    | (refine wpList_store_row rfl 40 (.tmp 7) (.tmp 13) rfl (N1 + 1) (kv .u8 G).toArray rfl rfl 40 _ H3.out.2.1 (cells40 HGL.out) (size83 HGL.out) (kv_all _ _) ?_; refine wpl_world (w := w3.setRow (N1 + 1) (kv .u8 G).toArray) (fun W => Blk W N1 (p.box 26) ∧ Row W (N1 + 1) 40 .u8 G ∧ Blk W (K + 1) RZ26 ∧ Below K w W ∧ HoldsB W N1 (.slice a (xT B).length c) (xT B) ∧ Row W K 22 .u8 key ∧ HoldsB W M (.slice va vn vc) B) ⟨(Turn.ofRow H3.out.2.1 _).keep H3.out.1 (by omega), H3.out.2.1.setRow G, (Turn.ofRow H3.out.2.1 _).keep H3.out.2.2.1 (by have := HFN.out; omega), H3.out.2.2.2.1.trans ((Turn.ofRow H3.out.2.1 _).below (by have := HFN.out; omega) (by have := H3.out.2.2.1.lt; omega)), H3.out.2.2.2.2.1.turn (Turn.ofRow H3.out.2.1 _) (Nat.le_succ _), (Turn.ofRow H3.out.2.1 _).keep H3.out.2.2.2.2.2.1 (by have := HFN.out; omega), H3.out.2.2.2.2.2.2.turn (Turn.ofRow H3.out.2.1 _) (by have := HFN.out; have := HMK.out; omega)⟩ ?_; rintro w4 h4; have H4 := Kp.mk h4; clear h4))
  refine wp_region_pred (fun w' => Blk w' N1 (p.box 26) ∧ Row w' (N1 + 1) 40 .u8 G ∧ Blk w' (K + 1) RZ26 ∧ Below K w w' ∧ HoldsB w' N1 (.slice a (xT B).length c) (xT B) ∧ Row w' K 22 .u8 key) [0, 1, 2, 3, 4, 5] []
    (fun ι w' v => match ι with
      | 0 => v = .slice (some ⟨K, 0, none⟩) 32 32
      | 1 => v = .agg #[.int .i64 p.fr, .int .i64 p.to, .int .u64 p.bo, .int .u64 p.co, .int .i64 p.ki, .slice p.a p.n p.c]
      | 3 => v = dgV T
      | 4 => v = dgV G
      | 5 => v = .bool false
      | 2 => HoldsB w' w'.heap.size v L
      | _ => v = .bool true)
    [[], [], [(1, some 20)], [(0, some 19), (2, some 21)], [], [(3, some 22), (4, some 23)]]
    [(0, some 19), (1, some 20), (2, some 21), (3, some 22), (4, some 23), (5, some 24)]
    (by kernel_rfl) (by kernel_rfl) (by kernel_rfl) (by kernel_rfl) (by kernel_rfl) (by kernel_rfl) (by decide) (by decide) (fun w1 w2 h hb => ⟨h.1.keep hb, h.2.1.keep hb, h.2.2.1.keep hb, h.2.2.2.1.trans (hb.mono (by have := h.2.2.1.lt; omega)), h.2.2.2.2.1.keep hb, h.2.2.2.2.2.keep hb⟩) ?_ ⟨H4.out.1, H4.out.2.1.drew, H4.out.2.2.1, H4.out.2.2.2.1.drew, H4.out.2.2.2.2.1.drew, H4.out.2.2.2.2.2.1.drew⟩ ?_ ?_
  · intro ι w1 w2 v h hb
    by_cases h2 : ι = 2
    · subst h2
      exact (h.grow hb)
    match ι, h2, h with
    | 0, _, h => exact h
    | 1, _, h => exact h
    | 2, g, h => exact absurd rfl g
    | 3, _, h => exact h
    | 4, _, h => exact h
    | 5, _, h => exact h
    | _ + 6, _, h => exact h
  · refine ⟨fun γ wx hS h => ?_, fun γ wx hS h => ?_, fun γ wx hS h => ?_, fun γ wx hS h => ?_, fun γ wx hS h => ?_, fun γ wx hS h => ?_, trivial⟩
    · have hs := hs22
      refine ⟨_, rfl, ?_⟩
      refine predOp_val (v := .slice (some ⟨K, 0, none⟩) 32 32) ?_ ?_ ?_
      · kernel_rfl
      · simp only [putE]
        go_simp
      · rfl
    · refine ⟨_, rfl, Or.inl ⟨rfl, predRun_value (exec_load_blk 26 (.tmp 6) rfl (N1) rfl 26 _ (0, 0) _ hS.1 Tryd.underlying26 rfl info26s) rfl⟩⟩
    · have h1 := h
      have e1 : γ 1 = .agg #[.int .i64 p.fr, .int .i64 p.to, .int .u64 p.bo, .int .u64 p.co, .int .i64 p.ki, .slice p.a p.n p.c] := h1
      refine ⟨_, rfl, Or.inl ⟨rfl, predRun_call (f := 37) (args := #[.agg #[.int .i64 p.fr, .int .i64 p.to, .int .u64 p.bo, .int .u64 p.co, .int .i64 p.ki, .slice p.a p.n p.c]]) (by simp only [putE, e1]; go_simp) ?_⟩⟩
      exact (rbytes_any p (xT B) wx (by rw [HPA.out]; exact hS.2.2.2.2.1.mono (Nat.le_of_lt hS.1.lt)) HRB.out HBP.out).mono fun r w9 ⟨v', h1, h2, h3⟩ => ⟨v', h1, by rw [← HLL.out]; exact h2, h3⟩
    · obtain ⟨h0, h2⟩ := h
      have e0 : γ 0 = .slice (some ⟨K, 0, none⟩) 32 32 := h0
      have p2 : HoldsB wx wx.heap.size (γ 2) L := h2
      refine ⟨_, rfl, Or.inl ⟨rfl, predRun_call (f := 38) (args := #[.slice (some ⟨K, 0, none⟩) 32 32, γ 2]) (by simp only [putE, e0]; go_simp) ?_⟩⟩
      have hkh : HoldsB wx wx.heap.size (.slice (some ⟨K, 0, none⟩) 32 32) key := by
        have := HoldsB.ofBytes hS.2.2.2.2.2 HKEY.out.2 (by rw [HKEY.out.1]; decide)
        rw [HKEY.out.1] at this
        exact this
      have hq := rtag_any wx.heap.size wx.heap.size _ _ key L wx hkh p2 (by rw [HKEY.out.1]; decide) (by have := HLN.out; have := HL.out; omega)
      rw [show halfL (macL key L) = T from HT.out.symm] at hq
      exact hq.mono fun r w9 ⟨h1, h2⟩ => ⟨_, h1, rfl, h2⟩
    · refine ⟨_, rfl, Or.inl ⟨rfl, predRun_value (exec_load_blk 40 (.tmp 7) rfl (N1 + 1) rfl 40 _ (0, 0) _ hS.2.1 Tryd.underlying40 rfl (cells40 HGL.out)) rfl⟩⟩
    · obtain ⟨h3, h4⟩ := h
      have e3 : γ 3 = dgV T := h3
      have e4 : γ 4 = dgV G := h4
      have hq := hnq
      have hg := hng
      refine ⟨_, rfl, ?_⟩
      refine predOp_val (v := .bool false) ?_ ?_ ?_
      · kernel_rfl
      · simp only [putE, e3, e4]
        go_simp
      · rfl
  · intro γ w9 hS h
    have h5 := h.2.2.2.2.2
    have H5 := Kp.mk hS
    simp only [putE, Act.put, List.setIfInBounds_toArray, List.set_cons_zero, List.set_cons_succ]
    rw [h5]
    clear h hS h5
    refine wpOps_done ?_
    go_wp2_with (first
      | (refine wpList_load_row rfl 26 (.tmp 6) rfl N1 rfl 26 #[.int .i64 p.fr, .int .i64 p.to, .int .u64 p.bo, .int .u64 p.co, .int .i64 p.ki, .slice p.a p.n p.c] (0, 0) _ H5.out.1 Tryd.underlying26 rfl info26s ?_)
      | (refine wpList_store_row rfl 26 (.tmp 4) (.tmp 26) rfl (K + 1) #[.int .i64 p.fr, .int .i64 p.to, .int .u64 p.bo, .int .u64 p.co, .int .i64 p.ki, .slice p.a p.n p.c] rfl rfl 26 _ H5.out.2.2.1 info26s rfl (six_one _ _ _ _ _ _ _ _) ?_; refine wpl_world (w := w9.setRow (K + 1) #[.int .i64 p.fr, .int .i64 p.to, .int .u64 p.bo, .int .u64 p.co, .int .i64 p.ki, .slice p.a p.n p.c]) (fun W => Blk W (K + 1) (.cells #[.int .i64 p.fr, .int .i64 p.to, .int .u64 p.bo, .int .u64 p.co, .int .i64 p.ki, .slice p.a p.n p.c] 26) ∧ Below K w W ∧ HoldsB W N1 (.slice a (xT B).length c) (xT B) ∧ N1 ≤ W.heap.size) ⟨(Turn.ofRow H5.out.2.2.1 _).blk, H5.out.2.2.2.1.trans ((Turn.ofRow H5.out.2.2.1 _).below (by omega) (by have := H5.out.2.2.1.lt; omega)), hoff H5.out.2.2.1 H5.out.2.2.2.2.1, by have := H5.out.1.lt; simp [World.setRow]; omega⟩ ?_; rintro w6 h6; have H6 := Kp.mk h6; clear h6))
    have HOE : Kp (oErr key B = 0) := ⟨by unfold oErr; rw [if_neg (by simp [H00.out]), ← HN16.out.1, ← HLE.out, ← HTQ.out, if_pos (of_decide_eq_true HEQ.out)]⟩
    exact bodyPost_ret (results_row_tmp rfl _ _ (K + 1) 26 _ (0, 0) _ (.int .i64 0) rfl rfl H6.out.1 Tryd.underlying26 rfl info26s) rfl ⟨a, c, by rw [yF_good HOE.out H00.out, ← HP.out, HOE.out], by rw [yT_good HOE.out H00.out]; exact H6.out.2.2.1.mono H6.out.2.2.2, by rw [← HK.out]; exact H6.out.2.1⟩
    
/-- The document's Open. -/
theorem ropen_any (M : Nat) (v : Value) (key B : List Int) (w : World) (hkey : key.length = 32 ∧ Bytes key) (h : HoldsB w M v B) (hM : M ≤ w.heap.size) (hr : B.length ≤ 140737488351232) : Calls Tryd.prog 17 #[dgV key, v] w (OpenPost key B w) := by
  by_cases h0 : tErr B = 0
  · have h16 := (taken_laid h.bytes h0).1
    cases hq : decide (tTag B = tagM key (B.take (B.length - 16))) with
    | false => exact ropen_bad M v key B w hkey h hM hr h0 _ rfl h16 _ rfl _ rfl hq
    | true => exact ropen_good M v key B w hkey h hM hr h0 _ rfl h16 _ rfl _ rfl hq
  · exact ropen_err M v key B w hkey h hM hr h0
end Go.Proofs.YtgabjmmmiogfjaaDoor
