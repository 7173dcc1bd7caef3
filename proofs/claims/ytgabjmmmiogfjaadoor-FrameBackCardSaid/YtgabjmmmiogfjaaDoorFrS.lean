/-
  frame.Open.
-/
import Derived.Test.YtgabjmmmiogfjaaDoorFrR
namespace Go.Proofs.YtgabjmmmiogfjaaDoor
open Go.RowKit

def oErr (key B : List Int) : Int := if tErr B ≠ 0 then tErr B else if tTag B = tagM key (B.take (B.length - 16)) then 0 else 24
def yX (key B : List Int) (n : Int) : Int := if oErr key B = 0 then n else 0
def yT (key B : List Int) : List Int := if oErr key B = 0 then tBody B else []
/-- The frame that bytes are by a key: zeros where they are none. -/
def yF (key B : List Int) (a : Option Addr) (c : Nat) : FV := ⟨yX key B (tFr B), yX key B (tTo B), yX key B (tBo B), yX key B (tCo B), yX key B (tKi B), a, (yT key B).length, c⟩
theorem yzero_post {key B : List Int} {E : Int} (h : oErr key B = E) (hne : E ≠ 0) : Ending.returned (.tuple #[.agg #[.int .i64 0, .int .i64 0, .int .u64 0, .int .u64 0, .int .i64 0, .slice none 0 0], .int .i64 E]) = .returned (.tuple #[(yF key B none 0).v, .int .i64 (oErr key B)]) := by
  have hn : ¬ oErr key B = 0 := by rw [h]; exact hne
  unfold yF yX yT
  rw [if_neg hn, if_neg hn, if_neg hn, if_neg hn, if_neg hn, if_neg hn, h]
  rfl
theorem yT_zero {key B : List Int} {E : Int} (h : oErr key B = E) (hne : E ≠ 0) : yT key B = [] := by unfold yT; rw [if_neg (by rw [h]; exact hne)]
theorem yF_good {key B : List Int} (h : oErr key B = 0) (h0 : tErr B = 0) (a : Option Addr) (c : Nat) : yF key B a c = xF B a c := by
  unfold yF xF yX xX yT xT
  rw [if_pos h, if_pos h, if_pos h, if_pos h, if_pos h, if_pos h, if_pos h0, if_pos h0, if_pos h0, if_pos h0, if_pos h0, if_pos h0]
theorem yT_good {key B : List Int} (h : oErr key B = 0) (h0 : tErr B = 0) : yT key B = xT B := by unfold yT xT; rw [if_pos h, if_pos h0]
theorem build30z (w : World) : (Instr.build 30 #[]).run Tryd.prog w = .ok (.agg #[.int .i64 0, .int .i64 0, .int .u64 0, .int .u64 0, .int .i64 0, .slice none 0 0]) w := run_build w 30 #[] _ (by kernel_rfl)
def OpenPost (key B : List Int) (w : World) (r : Ending) (w' : World) : Prop :=
  ∃ a c, r = .returned (.tuple #[(yF key B a c).v, .int .i64 (oErr key B)]) ∧ HoldsB w' w'.heap.size (.slice a (yT key B).length c) (yT key B) ∧ Below w.heap.size w w'
set_option maxRecDepth 100000 in
set_option maxHeartbeats 8000000 in
theorem open_err (M : Nat) (v : Value) (key B : List Int) (w : World) (hk : KonIs w) (hkey : key.length = 32 ∧ Bytes key) (h : HoldsB w M v B) (hM : M ≤ w.heap.size) (hr : B.length ≤ 140737488351232) (h0 : tErr B ≠ 0) : Calls Tryd.prog 16 #[dgV key, v] w (OpenPost key B w) := by
  have HNE0 := Kp.mk h0
  have HOE0 : Kp (oErr key B = tErr B) := ⟨by unfold oErr; rw [if_pos h0]⟩
  clear h0
  have H := Kp.mk h
  have HL := Kp.mk hr
  have HKON := Kp.mk hk
  have HKEY := Kp.mk hkey
  have hC := fun (w : World) => box_row (t := 80) (cs := kv .u8 key) (cells80 hkey.1) w
  obtain ⟨va, vn, vc, rfl, hvn⟩ := h.slice
  have HVN : Kp (vn = B.length) := ⟨by omega⟩
  obtain ⟨K, hK⟩ : ∃ K, K = w.heap.size := ⟨_, rfl⟩
  have HK := Kp.mk hK
  have HMK : Kp (M ≤ K) := ⟨by omega⟩
  have hs80 := slice25_all K
  have hb30 := build30z
  clear h hr hK hk hkey hvn hM
  go_enter Tryd.func16, Tryd.ntmps16
  go_wp2_with (refine wpList_box_eq rfl 80 (.tmp 0) rfl _ rfl _ _ (hC _) ?_; rw [← HK.out]; refine wpl_world (fun w2 => Row w2 K 80 .u8 key ∧ Below K w w2 ∧ K + 1 = w2.heap.size ∧ HoldsB w2 M (.slice va vn vc) B) ⟨Blk.newAt _ HK.out, by rw [HK.out]; exact more (Below.refl _ _) _, by simp [HK.out], H.out.alloc _⟩ ?_; rintro W1 ⟨h0, h1, h2, h3⟩; have K0 := Kp.mk h0; have K1 := Kp.mk h1; have K2 := Kp.mk h2; have K3 := Kp.mk h3; clear h0 h1 h2 h3)
  clear hC
  refine (taken_any M _ B _ (K3.out.alloc RZ) HL.out).mono ?_
  rintro r w1 ⟨a, c, rfl, hh, hb⟩
  rw [← K2.out]
  obtain ⟨p, hp⟩ : ∃ p, p = xF B a c := ⟨_, rfl⟩
  obtain ⟨G, hG⟩ : ∃ G, G = xG B := ⟨_, rfl⟩
  obtain ⟨E, hE⟩ : ∃ E, E = tErr B := ⟨_, rfl⟩
  have HP := Kp.mk hp
  have HE := Kp.mk hE
  have HG := Kp.mk hG
  have HGL : Kp (G.length = 16) := ⟨by rw [hG]; exact xG_len B⟩
  rw [← hp, ← hG, ← hE]
  clear hp hG hE
  have Q0 : Kp (Row w1 K 80 .u8 key) := ⟨(K0.out.alloc _).keep hb⟩
  have Q1 : Kp (Blk w1 (K + 1) RZ) := ⟨(Blk.newAt _ K2.out).keep hb⟩
  have Q2 : Kp (Below K w w1) := ⟨(K1.out.alloc (by have := K2.out; omega) _).trans (hb.mono (by have := K2.out; simp; omega))⟩
  have QB : Kp (HoldsB w1 M (.slice va vn vc) B) := ⟨(K3.out.alloc RZ).keep hb⟩
  have HH := Kp.mk hh
  clear hh hb K0 K1 K2 K3
  obtain ⟨N1, hN1⟩ : ∃ N1, N1 = w1.heap.size := ⟨_, rfl⟩
  have HN1 := Kp.mk hN1
  have HFN : Kp (K + 1 < N1) := ⟨by rw [hN1]; exact Q1.out.lt⟩
  clear hN1
  have HNE : Kp (E ≠ 0) := ⟨by rw [HE.out]; exact HNE0.out⟩
  have HOE : Kp (oErr key B = E) := ⟨by rw [HE.out]; exact HOE0.out⟩
  unfold FV.v
  have hne : (E != 0) = true := by have := HNE.out; simpa using this
  have hne2 : (E == 0) = false := by have := HNE.out; simpa using this
  go_wp2_with (first
    | (refine wpList_alloc_row rfl 83 rfl _ _ infoz83 ?_; rw [show (w1.alloc RZ).heap.size = N1 + 1 by rw [HN1.out]; simp, ← HN1.out]; refine wpl_world (w := (w1.alloc RZ).alloc (.cells (kv .u8 (fill 16 [])).toArray 83)) (fun W => Blk W N1 RZ ∧ Row W (N1 + 1) 83 .u8 (fill 16 []) ∧ Blk W (K + 1) RZ ∧ Below K w W ∧ HoldsB W N1 (.slice a (xT B).length c) (xT B) ∧ Row W K 80 .u8 key ∧ HoldsB W M (.slice va vn vc) B) ⟨(Blk.newAt _ HN1.out).old _, Blk.newAt _ (by rw [HN1.out]; simp), (Q1.out.old _).old _, (Q2.out.alloc (by have := HFN.out; have := HN1.out; omega) _).alloc (by have := HFN.out; have := HN1.out; simp; omega) _, by rw [HN1.out]; exact (HH.out.alloc _).alloc _, (Q0.out.alloc _).alloc _, (QB.out.alloc _).alloc _⟩ ?_; rintro w2 h2; have H2 := Kp.mk h2; clear h2)
    | (refine wpList_store_row rfl 30 (.tmp 6) (.tmp 12) rfl N1 #[.int .i64 p.fr, .int .i64 p.to, .int .u64 p.bo, .int .u64 p.co, .int .i64 p.ki, .slice p.a p.n p.c] rfl rfl 30 _ H2.out.1 info30s rfl (six_one _ _ _ _ _ _ _ _) ?_; refine wpl_world (w := w2.setRow N1 #[.int .i64 p.fr, .int .i64 p.to, .int .u64 p.bo, .int .u64 p.co, .int .i64 p.ki, .slice p.a p.n p.c]) (fun W => Blk W N1 (p.box 30) ∧ Row W (N1 + 1) 83 .u8 (fill 16 []) ∧ Blk W (K + 1) RZ ∧ Below K w W ∧ HoldsB W N1 (.slice a (xT B).length c) (xT B) ∧ Row W K 80 .u8 key ∧ HoldsB W M (.slice va vn vc) B) ⟨(Turn.ofRow H2.out.1 _).blk, (Turn.ofRow H2.out.1 _).keep H2.out.2.1 (by omega), (Turn.ofRow H2.out.1 _).keep H2.out.2.2.1 (Nat.ne_of_lt HFN.out), H2.out.2.2.2.1.trans ((Turn.ofRow H2.out.1 _).below (by have := HFN.out; omega) (by have := H2.out.2.2.1.lt; omega)), H2.out.2.2.2.2.1.turn (Turn.ofRow H2.out.1 _) (Nat.le_refl _), (Turn.ofRow H2.out.1 _).keep H2.out.2.2.2.2.2.1 (by have := HFN.out; omega), H2.out.2.2.2.2.2.2.turn (Turn.ofRow H2.out.1 _) (by have := HFN.out; have := HMK.out; omega)⟩ ?_; rintro w3 h3; have H3 := Kp.mk h3; clear h3)
    | (refine wpList_store_row rfl 83 (.tmp 7) (.tmp 13) rfl (N1 + 1) (kv .u8 G).toArray rfl rfl 83 _ H3.out.2.1 (cells83 HGL.out) (size83 HGL.out) (kv_all _ _) ?_; refine wpl_world (w := w3.setRow (N1 + 1) (kv .u8 G).toArray) (fun W => Blk W N1 (p.box 30) ∧ Row W (N1 + 1) 83 .u8 G ∧ Blk W (K + 1) RZ ∧ Below K w W ∧ HoldsB W N1 (.slice a (xT B).length c) (xT B) ∧ Row W K 80 .u8 key ∧ HoldsB W M (.slice va vn vc) B) ⟨(Turn.ofRow H3.out.2.1 _).keep H3.out.1 (by omega), H3.out.2.1.setRow G, (Turn.ofRow H3.out.2.1 _).keep H3.out.2.2.1 (by have := HFN.out; omega), H3.out.2.2.2.1.trans ((Turn.ofRow H3.out.2.1 _).below (by have := HFN.out; omega) (by have := H3.out.2.2.1.lt; omega)), H3.out.2.2.2.2.1.turn (Turn.ofRow H3.out.2.1 _) (Nat.le_succ _), (Turn.ofRow H3.out.2.1 _).keep H3.out.2.2.2.2.2.1 (by have := HFN.out; omega), H3.out.2.2.2.2.2.2.turn (Turn.ofRow H3.out.2.1 _) (by have := HFN.out; have := HMK.out; omega)⟩ ?_; rintro w4 h4; have H4 := Kp.mk h4; clear h4)
    | (refine wpList_store_row rfl 30 (.tmp 4) (.tmp 17) rfl (K + 1) #[.int .i64 0, .int .i64 0, .int .u64 0, .int .u64 0, .int .i64 0, .slice none 0 0] rfl rfl 30 _ H4.out.2.2.1 info30s rfl (six_one _ _ _ _ _ _ _ _) ?_; refine wpl_world (w := w4.setRow (K + 1) #[.int .i64 0, .int .i64 0, .int .u64 0, .int .u64 0, .int .i64 0, .slice none 0 0]) (fun W => Blk W (K + 1) (.cells #[.int .i64 0, .int .i64 0, .int .u64 0, .int .u64 0, .int .i64 0, .slice none 0 0] 30) ∧ Below K w W ∧ HoldsB W N1 (.slice a (xT B).length c) (xT B) ∧ N1 ≤ W.heap.size) ⟨(Turn.ofRow H4.out.2.2.1 _).blk, H4.out.2.2.2.1.trans ((Turn.ofRow H4.out.2.2.1 _).below (by omega) (by have := H4.out.2.2.1.lt; omega)), hoff H4.out.2.2.1 H4.out.2.2.2.2.1, by have := H4.out.1.lt; simp [World.setRow]; omega⟩ ?_; rintro w6 h6; have H6 := Kp.mk h6; clear h6))
  exact bodyPost_ret (results_row_tmp rfl _ _ (K + 1) 30 _ (0, 0) _ (.int .i64 E) rfl rfl H6.out.1 Tryd.underlying30 rfl info30s) rfl ⟨none, 0, yzero_post HOE.out HNE.out, by rw [yT_zero HOE.out HNE.out]; exact HoldsB.nil _ _, by rw [← HK.out]; exact H6.out.2.1⟩
set_option maxRecDepth 100000 in
set_option maxHeartbeats 8000000 in
theorem open_bad (M : Nat) (v : Value) (key B : List Int) (w : World) (hk : KonIs w) (hkey : key.length = 32 ∧ Bytes key) (h : HoldsB w M v B) (hM : M ≤ w.heap.size) (hr : B.length ≤ 140737488351232) (h0 : tErr B = 0) (n16 : Nat) (hn16 : n16 = B.length - 16) (h16 : 16 ≤ B.length) (L : List Int) (hLE : L = B.take n16) (T : List Int) (hT : T = tagM key L) (hq : decide (tTag B = T) = false) : Calls Tryd.prog 16 #[dgV key, v] w (OpenPost key B w) := by
  have HN16 : Kp (n16 = B.length - 16 ∧ 16 ≤ B.length) := ⟨hn16, h16⟩
  have HLE : Kp (L = B.take n16) := ⟨hLE⟩
  have HLN : Kp (L.length ≤ B.length) := ⟨by rw [hLE, List.length_take]; omega⟩
  have HTQ : Kp (T = tagM key L) := ⟨hT⟩
  have HT : Kp (T = halfL (macL key L)) := ⟨hT⟩
  have HTL : Kp (T.length = 16 ∧ Bytes T) := ⟨by rw [hT]; exact ⟨tagM_len _ _, tagM_bytes _ _⟩⟩
  clear hn16 h16 hLE hT
  have H00 := Kp.mk h0
  have HEQ := Kp.mk hq
  clear h0 hq
  have H := Kp.mk h
  have HL := Kp.mk hr
  have HKON := Kp.mk hk
  have HKEY := Kp.mk hkey
  have hC := fun (w : World) => box_row (t := 80) (cs := kv .u8 key) (cells80 hkey.1) w
  obtain ⟨va, vn, vc, rfl, hvn⟩ := h.slice
  have HVN : Kp (vn = B.length) := ⟨by omega⟩
  obtain ⟨K, hK⟩ : ∃ K, K = w.heap.size := ⟨_, rfl⟩
  have HK := Kp.mk hK
  have HMK : Kp (M ≤ K) := ⟨by omega⟩
  have hs80 := slice25_all K
  have hb30 := build30z
  clear h hr hK hk hkey hvn hM
  go_enter Tryd.func16, Tryd.ntmps16
  go_wp2_with (refine wpList_box_eq rfl 80 (.tmp 0) rfl _ rfl _ _ (hC _) ?_; rw [← HK.out]; refine wpl_world (fun w2 => Row w2 K 80 .u8 key ∧ Below K w w2 ∧ K + 1 = w2.heap.size ∧ HoldsB w2 M (.slice va vn vc) B) ⟨Blk.newAt _ HK.out, by rw [HK.out]; exact more (Below.refl _ _) _, by simp [HK.out], H.out.alloc _⟩ ?_; rintro W1 ⟨h0, h1, h2, h3⟩; have K0 := Kp.mk h0; have K1 := Kp.mk h1; have K2 := Kp.mk h2; have K3 := Kp.mk h3; clear h0 h1 h2 h3)
  clear hC
  refine (taken_any M _ B _ (K3.out.alloc RZ) HL.out).mono ?_
  rintro r w1 ⟨a, c, rfl, hh, hb⟩
  rw [← K2.out]
  obtain ⟨p, hp⟩ : ∃ p, p = xF B a c := ⟨_, rfl⟩
  obtain ⟨G, hG⟩ : ∃ G, G = xG B := ⟨_, rfl⟩
  obtain ⟨E, hE⟩ : ∃ E, E = tErr B := ⟨_, rfl⟩
  have HP := Kp.mk hp
  have HE := Kp.mk hE
  have HG := Kp.mk hG
  have HGL : Kp (G.length = 16) := ⟨by rw [hG]; exact xG_len B⟩
  rw [← hp, ← hG, ← hE]
  clear hp hG hE
  have Q0 : Kp (Row w1 K 80 .u8 key) := ⟨(K0.out.alloc _).keep hb⟩
  have Q1 : Kp (Blk w1 (K + 1) RZ) := ⟨(Blk.newAt _ K2.out).keep hb⟩
  have Q2 : Kp (Below K w w1) := ⟨(K1.out.alloc (by have := K2.out; omega) _).trans (hb.mono (by have := K2.out; simp; omega))⟩
  have QB : Kp (HoldsB w1 M (.slice va vn vc) B) := ⟨(K3.out.alloc RZ).keep hb⟩
  have HH := Kp.mk hh
  clear hh hb K0 K1 K2 K3
  obtain ⟨N1, hN1⟩ : ∃ N1, N1 = w1.heap.size := ⟨_, rfl⟩
  have HN1 := Kp.mk hN1
  have HFN : Kp (K + 1 < N1) := ⟨by rw [hN1]; exact Q1.out.lt⟩
  clear hN1
  have HGQ : Kp (G = tTag B) := ⟨by rw [HG.out]; unfold xG; rw [if_pos H00.out]⟩
  have HGB : Kp (Bytes G) := ⟨by rw [HGQ.out]; exact rsumP_bytes H.out.bytes _ _⟩
  have HGT : Kp (decide (G = T) = false) := ⟨by rw [HGQ.out]; exact HEQ.out⟩
  have HE0 : E = 0 := by rw [HE.out]; exact H00.out
  subst HE0
  unfold FV.v
  go_wp2_with (first
    | (refine wpList_alloc_row rfl 83 rfl _ _ infoz83 ?_; rw [show (w1.alloc RZ).heap.size = N1 + 1 by rw [HN1.out]; simp, ← HN1.out]; refine wpl_world (w := (w1.alloc RZ).alloc (.cells (kv .u8 (fill 16 [])).toArray 83)) (fun W => Blk W N1 RZ ∧ Row W (N1 + 1) 83 .u8 (fill 16 []) ∧ Blk W (K + 1) RZ ∧ Below K w W ∧ HoldsB W N1 (.slice a (xT B).length c) (xT B) ∧ Row W K 80 .u8 key ∧ HoldsB W M (.slice va vn vc) B) ⟨(Blk.newAt _ HN1.out).old _, Blk.newAt _ (by rw [HN1.out]; simp), (Q1.out.old _).old _, (Q2.out.alloc (by have := HFN.out; have := HN1.out; omega) _).alloc (by have := HFN.out; have := HN1.out; simp; omega) _, by rw [HN1.out]; exact (HH.out.alloc _).alloc _, (Q0.out.alloc _).alloc _, (QB.out.alloc _).alloc _⟩ ?_; rintro w2 h2; have H2 := Kp.mk h2; clear h2)
    | (refine wpList_store_row rfl 30 (.tmp 6) (.tmp 12) rfl N1 #[.int .i64 p.fr, .int .i64 p.to, .int .u64 p.bo, .int .u64 p.co, .int .i64 p.ki, .slice p.a p.n p.c] rfl rfl 30 _ H2.out.1 info30s rfl (six_one _ _ _ _ _ _ _ _) ?_; refine wpl_world (w := w2.setRow N1 #[.int .i64 p.fr, .int .i64 p.to, .int .u64 p.bo, .int .u64 p.co, .int .i64 p.ki, .slice p.a p.n p.c]) (fun W => Blk W N1 (p.box 30) ∧ Row W (N1 + 1) 83 .u8 (fill 16 []) ∧ Blk W (K + 1) RZ ∧ Below K w W ∧ HoldsB W N1 (.slice a (xT B).length c) (xT B) ∧ Row W K 80 .u8 key ∧ HoldsB W M (.slice va vn vc) B) ⟨(Turn.ofRow H2.out.1 _).blk, (Turn.ofRow H2.out.1 _).keep H2.out.2.1 (by omega), (Turn.ofRow H2.out.1 _).keep H2.out.2.2.1 (Nat.ne_of_lt HFN.out), H2.out.2.2.2.1.trans ((Turn.ofRow H2.out.1 _).below (by have := HFN.out; omega) (by have := H2.out.2.2.1.lt; omega)), H2.out.2.2.2.2.1.turn (Turn.ofRow H2.out.1 _) (Nat.le_refl _), (Turn.ofRow H2.out.1 _).keep H2.out.2.2.2.2.2.1 (by have := HFN.out; omega), H2.out.2.2.2.2.2.2.turn (Turn.ofRow H2.out.1 _) (by have := HFN.out; have := HMK.out; omega)⟩ ?_; rintro w3 h3; have H3 := Kp.mk h3; clear h3)
    | (refine wpList_store_row rfl 83 (.tmp 7) (.tmp 13) rfl (N1 + 1) (kv .u8 G).toArray rfl rfl 83 _ H3.out.2.1 (cells83 HGL.out) (size83 HGL.out) (kv_all _ _) ?_; refine wpl_world (w := w3.setRow (N1 + 1) (kv .u8 G).toArray) (fun W => Blk W N1 (p.box 30) ∧ Row W (N1 + 1) 83 .u8 G ∧ Blk W (K + 1) RZ ∧ Below K w W ∧ HoldsB W N1 (.slice a (xT B).length c) (xT B) ∧ Row W K 80 .u8 key ∧ HoldsB W M (.slice va vn vc) B) ⟨(Turn.ofRow H3.out.2.1 _).keep H3.out.1 (by omega), H3.out.2.1.setRow G, (Turn.ofRow H3.out.2.1 _).keep H3.out.2.2.1 (by have := HFN.out; omega), H3.out.2.2.2.1.trans ((Turn.ofRow H3.out.2.1 _).below (by have := HFN.out; omega) (by have := H3.out.2.2.1.lt; omega)), H3.out.2.2.2.2.1.turn (Turn.ofRow H3.out.2.1 _) (Nat.le_succ _), (Turn.ofRow H3.out.2.1 _).keep H3.out.2.2.2.2.2.1 (by have := HFN.out; omega), H3.out.2.2.2.2.2.2.turn (Turn.ofRow H3.out.2.1 _) (by have := HFN.out; have := HMK.out; omega)⟩ ?_; rintro w4 h4; have H4 := Kp.mk h4; clear h4))
  obtain ⟨vf, hvf, hf⟩ := H4.out.2.2.2.2.2.2.front (k := n16) (by have := HVN.out; have := HN16.out; omega)
  rw [← HLE.out] at hf
  have HF := Kp.mk hf
  have hw1 : IntKind.i64.wrap ((vn : Int) - 16) = (n16 : Int) := by have := HN16.out; have := HVN.out; have := HL.out; rw [show (vn : Int) - 16 = (n16 : Int) by omega]; exact IntWalk.i64_in _ (by omega)
  have hw2 : wrap64 ((vn : Int) - 16) = (n16 : Int) := by have := HN16.out; have := HVN.out; have := HL.out; unfold wrap64; omega
  clear hf
  refine wp_region_flow (fun W => Blk W N1 (p.box 30) ∧ Row W (N1 + 1) 83 .u8 G ∧ Blk W (K + 1) RZ ∧ Below K w W ∧ HoldsB W N1 (.slice a (xT B).length c) (xT B) ∧ Row W K 80 .u8 key ∧ HoldsB W M vf L ∧ KonIs W) (by kernel_rfl) (by kernel_rfl) (by kernel_rfl) (fun w1 w2 h hb => ⟨h.1.keep hb, h.2.1.keep hb, h.2.2.1.keep hb, h.2.2.2.1.trans (hb.mono (by have := h.2.2.1.lt; omega)), h.2.2.2.2.1.keep hb, h.2.2.2.2.2.1.keep hb, h.2.2.2.2.2.2.1.keep hb, h.2.2.2.2.2.2.2.keep hb⟩) ⟨H4.out.1, H4.out.2.1.drew, H4.out.2.2.1, H4.out.2.2.2.1.drew, H4.out.2.2.2.2.1.drew, H4.out.2.2.2.2.2.1.drew, HF.out.drew, HKON.out.frame (H4.out.2.2.2.1.block 0 (by rw [HK.out]; exact HKON.out.pos))⟩ ?_
  refine Flow.value rfl (fun wx hS => by exact exec_load_blk 83 (.tmp 7) rfl (N1 + 1) rfl 83 _ (0, 0) _ hS.2.1 Tryd.underlying83 rfl (cells83 HGL.out)) ?_
  try simp only [Act.put, List.setIfInBounds_toArray, List.set_cons_zero, List.set_cons_succ]
  refine Flow.value rfl (fun wx hS => by have hs := hs80; go_simp; with_reducible rfl) ?_
  try simp only [Act.put, List.setIfInBounds_toArray, List.set_cons_zero, List.set_cons_succ]
  refine Flow.value rfl (fun wx hS => by go_simp; with_reducible rfl) ?_
  try simp only [Act.put, List.setIfInBounds_toArray, List.set_cons_zero, List.set_cons_succ]
  refine Flow.value rfl (fun wx hS => by go_simp; with_reducible rfl) ?_
  try simp only [Act.put, List.setIfInBounds_toArray, List.set_cons_zero, List.set_cons_succ]
  refine Flow.value (v := .int .i64 vn) rfl (fun wx hS => by go_simp; first | done | with_reducible rfl | rfl) ?_
  try simp only [Act.put, List.setIfInBounds_toArray, List.set_cons_zero, List.set_cons_succ]
  refine Flow.value (v := .int .i64 n16) rfl (fun wx hS => by go_simp; first | done | simp [hw1, hw2] | rfl) ?_
  try simp only [Act.put, List.setIfInBounds_toArray, List.set_cons_zero, List.set_cons_succ]
  refine Flow.value (v := vf) rfl (fun wx hS => by have hs := hvf; go_simp; first | done | exact hvf wx | with_reducible rfl) ?_
  try simp only [Act.put, List.setIfInBounds_toArray, List.set_cons_zero, List.set_cons_succ]
  refine Flow.call (v := dgV T) rfl (f := 35) (args := #[.slice (some ⟨K, 0, none⟩) 32 32, vf]) (fun wx hS => by go_simp) (fun wx hS => ?_) ?_
  · have hkh : HoldsB wx wx.heap.size (.slice (some ⟨K, 0, none⟩) 32 32) key := by
      have := HoldsB.ofBytes hS.2.2.2.2.2.1 HKEY.out.2 (by rw [HKEY.out.1]; decide)
      rw [HKEY.out.1] at this
      exact this
    have hq := tag_any wx.heap.size M _ _ key L wx hS.2.2.2.2.2.2.2 hkh hS.2.2.2.2.2.2.1 (by rw [HKEY.out.1]; decide) (by have := HLN.out; have := HL.out; omega)
    rw [show halfL (macL key L) = T from HT.out.symm] at hq
    exact hq
  try simp only [Act.put, List.setIfInBounds_toArray, List.set_cons_zero, List.set_cons_succ]
  refine Flow.call (v := .bool false) rfl (f := 46) (args := #[dgV G, dgV T]) (fun wx hS => by go_simp) (fun wx hS => ?_) ?_
  · have hq := same_any G T wx HGL.out HGB.out HTL.out.1 HTL.out.2
    rw [show decide (G = T) = false from HGT.out] at hq
    exact hq
  try simp only [Act.put, List.setIfInBounds_toArray, List.set_cons_zero, List.set_cons_succ]
  refine Flow.value (v := .bool true) rfl (fun wx hS => by go_simp; first | done | rfl) ?_
  try simp only [Act.put, List.setIfInBounds_toArray, List.set_cons_zero, List.set_cons_succ]
  refine Flow.done ?_
  intro w5 hS
  have H5 := Kp.mk hS
  clear hS
  go_wp2_with (first
    | (refine wpList_store_row rfl 30 (.tmp 4) (.tmp 29) rfl (K + 1) #[.int .i64 0, .int .i64 0, .int .u64 0, .int .u64 0, .int .i64 0, .slice none 0 0] rfl rfl 30 _ H5.out.2.2.1 info30s rfl (six_one _ _ _ _ _ _ _ _) ?_; refine wpl_world (w := w5.setRow (K + 1) #[.int .i64 0, .int .i64 0, .int .u64 0, .int .u64 0, .int .i64 0, .slice none 0 0]) (fun W => Blk W (K + 1) (.cells #[.int .i64 0, .int .i64 0, .int .u64 0, .int .u64 0, .int .i64 0, .slice none 0 0] 30) ∧ Below K w W ∧ HoldsB W N1 (.slice a (xT B).length c) (xT B) ∧ N1 ≤ W.heap.size) ⟨(Turn.ofRow H5.out.2.2.1 _).blk, H5.out.2.2.2.1.trans ((Turn.ofRow H5.out.2.2.1 _).below (by omega) (by have := H5.out.2.2.1.lt; omega)), hoff H5.out.2.2.1 H5.out.2.2.2.2.1, by have := H5.out.1.lt; simp [World.setRow]; omega⟩ ?_; rintro w6 h6; have H6 := Kp.mk h6; clear h6))
  have HOE : Kp (oErr key B = 24) := ⟨by unfold oErr; rw [if_neg (by simp [H00.out]), ← HN16.out.1, ← HLE.out, ← HTQ.out, if_neg (of_decide_eq_false HEQ.out)]⟩
  exact bodyPost_ret (results_row_tmp rfl _ _ (K + 1) 30 _ (0, 0) _ (.int .i64 24) rfl rfl H6.out.1 Tryd.underlying30 rfl info30s) rfl ⟨none, 0, yzero_post HOE.out (by decide), by rw [yT_zero HOE.out (by decide)]; exact HoldsB.nil _ _, by rw [← HK.out]; exact H6.out.2.1⟩
set_option maxRecDepth 100000 in
set_option maxHeartbeats 8000000 in
theorem open_good (M : Nat) (v : Value) (key B : List Int) (w : World) (hk : KonIs w) (hkey : key.length = 32 ∧ Bytes key) (h : HoldsB w M v B) (hM : M ≤ w.heap.size) (hr : B.length ≤ 140737488351232) (h0 : tErr B = 0) (n16 : Nat) (hn16 : n16 = B.length - 16) (h16 : 16 ≤ B.length) (L : List Int) (hLE : L = B.take n16) (T : List Int) (hT : T = tagM key L) (hq : decide (tTag B = T) = true) : Calls Tryd.prog 16 #[dgV key, v] w (OpenPost key B w) := by
  have HN16 : Kp (n16 = B.length - 16 ∧ 16 ≤ B.length) := ⟨hn16, h16⟩
  have HLE : Kp (L = B.take n16) := ⟨hLE⟩
  have HLN : Kp (L.length ≤ B.length) := ⟨by rw [hLE, List.length_take]; omega⟩
  have HTQ : Kp (T = tagM key L) := ⟨hT⟩
  have HT : Kp (T = halfL (macL key L)) := ⟨hT⟩
  have HTL : Kp (T.length = 16 ∧ Bytes T) := ⟨by rw [hT]; exact ⟨tagM_len _ _, tagM_bytes _ _⟩⟩
  clear hn16 h16 hLE hT
  have H00 := Kp.mk h0
  have HEQ := Kp.mk hq
  clear h0 hq
  have H := Kp.mk h
  have HL := Kp.mk hr
  have HKON := Kp.mk hk
  have HKEY := Kp.mk hkey
  have hC := fun (w : World) => box_row (t := 80) (cs := kv .u8 key) (cells80 hkey.1) w
  obtain ⟨va, vn, vc, rfl, hvn⟩ := h.slice
  have HVN : Kp (vn = B.length) := ⟨by omega⟩
  obtain ⟨K, hK⟩ : ∃ K, K = w.heap.size := ⟨_, rfl⟩
  have HK := Kp.mk hK
  have HMK : Kp (M ≤ K) := ⟨by omega⟩
  have hs80 := slice25_all K
  have hb30 := build30z
  clear h hr hK hk hkey hvn hM
  go_enter Tryd.func16, Tryd.ntmps16
  go_wp2_with (refine wpList_box_eq rfl 80 (.tmp 0) rfl _ rfl _ _ (hC _) ?_; rw [← HK.out]; refine wpl_world (fun w2 => Row w2 K 80 .u8 key ∧ Below K w w2 ∧ K + 1 = w2.heap.size ∧ HoldsB w2 M (.slice va vn vc) B) ⟨Blk.newAt _ HK.out, by rw [HK.out]; exact more (Below.refl _ _) _, by simp [HK.out], H.out.alloc _⟩ ?_; rintro W1 ⟨h0, h1, h2, h3⟩; have K0 := Kp.mk h0; have K1 := Kp.mk h1; have K2 := Kp.mk h2; have K3 := Kp.mk h3; clear h0 h1 h2 h3)
  clear hC
  refine (taken_any M _ B _ (K3.out.alloc RZ) HL.out).mono ?_
  rintro r w1 ⟨a, c, rfl, hh, hb⟩
  rw [← K2.out]
  obtain ⟨p, hp⟩ : ∃ p, p = xF B a c := ⟨_, rfl⟩
  obtain ⟨G, hG⟩ : ∃ G, G = xG B := ⟨_, rfl⟩
  obtain ⟨E, hE⟩ : ∃ E, E = tErr B := ⟨_, rfl⟩
  have HP := Kp.mk hp
  have HE := Kp.mk hE
  have HG := Kp.mk hG
  have HGL : Kp (G.length = 16) := ⟨by rw [hG]; exact xG_len B⟩
  rw [← hp, ← hG, ← hE]
  clear hp hG hE
  have Q0 : Kp (Row w1 K 80 .u8 key) := ⟨(K0.out.alloc _).keep hb⟩
  have Q1 : Kp (Blk w1 (K + 1) RZ) := ⟨(Blk.newAt _ K2.out).keep hb⟩
  have Q2 : Kp (Below K w w1) := ⟨(K1.out.alloc (by have := K2.out; omega) _).trans (hb.mono (by have := K2.out; simp; omega))⟩
  have QB : Kp (HoldsB w1 M (.slice va vn vc) B) := ⟨(K3.out.alloc RZ).keep hb⟩
  have HH := Kp.mk hh
  clear hh hb K0 K1 K2 K3
  obtain ⟨N1, hN1⟩ : ∃ N1, N1 = w1.heap.size := ⟨_, rfl⟩
  have HN1 := Kp.mk hN1
  have HFN : Kp (K + 1 < N1) := ⟨by rw [hN1]; exact Q1.out.lt⟩
  clear hN1
  have HGQ : Kp (G = tTag B) := ⟨by rw [HG.out]; unfold xG; rw [if_pos H00.out]⟩
  have HGB : Kp (Bytes G) := ⟨by rw [HGQ.out]; exact rsumP_bytes H.out.bytes _ _⟩
  have HGT : Kp (decide (G = T) = true) := ⟨by rw [HGQ.out]; exact HEQ.out⟩
  have HE0 : E = 0 := by rw [HE.out]; exact H00.out
  subst HE0
  unfold FV.v
  go_wp2_with (first
    | (refine wpList_alloc_row rfl 83 rfl _ _ infoz83 ?_; rw [show (w1.alloc RZ).heap.size = N1 + 1 by rw [HN1.out]; simp, ← HN1.out]; refine wpl_world (w := (w1.alloc RZ).alloc (.cells (kv .u8 (fill 16 [])).toArray 83)) (fun W => Blk W N1 RZ ∧ Row W (N1 + 1) 83 .u8 (fill 16 []) ∧ Blk W (K + 1) RZ ∧ Below K w W ∧ HoldsB W N1 (.slice a (xT B).length c) (xT B) ∧ Row W K 80 .u8 key ∧ HoldsB W M (.slice va vn vc) B) ⟨(Blk.newAt _ HN1.out).old _, Blk.newAt _ (by rw [HN1.out]; simp), (Q1.out.old _).old _, (Q2.out.alloc (by have := HFN.out; have := HN1.out; omega) _).alloc (by have := HFN.out; have := HN1.out; simp; omega) _, by rw [HN1.out]; exact (HH.out.alloc _).alloc _, (Q0.out.alloc _).alloc _, (QB.out.alloc _).alloc _⟩ ?_; rintro w2 h2; have H2 := Kp.mk h2; clear h2)
    | (refine wpList_store_row rfl 30 (.tmp 6) (.tmp 12) rfl N1 #[.int .i64 p.fr, .int .i64 p.to, .int .u64 p.bo, .int .u64 p.co, .int .i64 p.ki, .slice p.a p.n p.c] rfl rfl 30 _ H2.out.1 info30s rfl (six_one _ _ _ _ _ _ _ _) ?_; refine wpl_world (w := w2.setRow N1 #[.int .i64 p.fr, .int .i64 p.to, .int .u64 p.bo, .int .u64 p.co, .int .i64 p.ki, .slice p.a p.n p.c]) (fun W => Blk W N1 (p.box 30) ∧ Row W (N1 + 1) 83 .u8 (fill 16 []) ∧ Blk W (K + 1) RZ ∧ Below K w W ∧ HoldsB W N1 (.slice a (xT B).length c) (xT B) ∧ Row W K 80 .u8 key ∧ HoldsB W M (.slice va vn vc) B) ⟨(Turn.ofRow H2.out.1 _).blk, (Turn.ofRow H2.out.1 _).keep H2.out.2.1 (by omega), (Turn.ofRow H2.out.1 _).keep H2.out.2.2.1 (Nat.ne_of_lt HFN.out), H2.out.2.2.2.1.trans ((Turn.ofRow H2.out.1 _).below (by have := HFN.out; omega) (by have := H2.out.2.2.1.lt; omega)), H2.out.2.2.2.2.1.turn (Turn.ofRow H2.out.1 _) (Nat.le_refl _), (Turn.ofRow H2.out.1 _).keep H2.out.2.2.2.2.2.1 (by have := HFN.out; omega), H2.out.2.2.2.2.2.2.turn (Turn.ofRow H2.out.1 _) (by have := HFN.out; have := HMK.out; omega)⟩ ?_; rintro w3 h3; have H3 := Kp.mk h3; clear h3)
    | (refine wpList_store_row rfl 83 (.tmp 7) (.tmp 13) rfl (N1 + 1) (kv .u8 G).toArray rfl rfl 83 _ H3.out.2.1 (cells83 HGL.out) (size83 HGL.out) (kv_all _ _) ?_; refine wpl_world (w := w3.setRow (N1 + 1) (kv .u8 G).toArray) (fun W => Blk W N1 (p.box 30) ∧ Row W (N1 + 1) 83 .u8 G ∧ Blk W (K + 1) RZ ∧ Below K w W ∧ HoldsB W N1 (.slice a (xT B).length c) (xT B) ∧ Row W K 80 .u8 key ∧ HoldsB W M (.slice va vn vc) B) ⟨(Turn.ofRow H3.out.2.1 _).keep H3.out.1 (by omega), H3.out.2.1.setRow G, (Turn.ofRow H3.out.2.1 _).keep H3.out.2.2.1 (by have := HFN.out; omega), H3.out.2.2.2.1.trans ((Turn.ofRow H3.out.2.1 _).below (by have := HFN.out; omega) (by have := H3.out.2.2.1.lt; omega)), H3.out.2.2.2.2.1.turn (Turn.ofRow H3.out.2.1 _) (Nat.le_succ _), (Turn.ofRow H3.out.2.1 _).keep H3.out.2.2.2.2.2.1 (by have := HFN.out; omega), H3.out.2.2.2.2.2.2.turn (Turn.ofRow H3.out.2.1 _) (by have := HFN.out; have := HMK.out; omega)⟩ ?_; rintro w4 h4; have H4 := Kp.mk h4; clear h4))
  obtain ⟨vf, hvf, hf⟩ := H4.out.2.2.2.2.2.2.front (k := n16) (by have := HVN.out; have := HN16.out; omega)
  rw [← HLE.out] at hf
  have HF := Kp.mk hf
  have hw1 : IntKind.i64.wrap ((vn : Int) - 16) = (n16 : Int) := by have := HN16.out; have := HVN.out; have := HL.out; rw [show (vn : Int) - 16 = (n16 : Int) by omega]; exact IntWalk.i64_in _ (by omega)
  have hw2 : wrap64 ((vn : Int) - 16) = (n16 : Int) := by have := HN16.out; have := HVN.out; have := HL.out; unfold wrap64; omega
  clear hf
  refine wp_region_flow (fun W => Blk W N1 (p.box 30) ∧ Row W (N1 + 1) 83 .u8 G ∧ Blk W (K + 1) RZ ∧ Below K w W ∧ HoldsB W N1 (.slice a (xT B).length c) (xT B) ∧ Row W K 80 .u8 key ∧ HoldsB W M vf L ∧ KonIs W) (by kernel_rfl) (by kernel_rfl) (by kernel_rfl) (fun w1 w2 h hb => ⟨h.1.keep hb, h.2.1.keep hb, h.2.2.1.keep hb, h.2.2.2.1.trans (hb.mono (by have := h.2.2.1.lt; omega)), h.2.2.2.2.1.keep hb, h.2.2.2.2.2.1.keep hb, h.2.2.2.2.2.2.1.keep hb, h.2.2.2.2.2.2.2.keep hb⟩) ⟨H4.out.1, H4.out.2.1.drew, H4.out.2.2.1, H4.out.2.2.2.1.drew, H4.out.2.2.2.2.1.drew, H4.out.2.2.2.2.2.1.drew, HF.out.drew, HKON.out.frame (H4.out.2.2.2.1.block 0 (by rw [HK.out]; exact HKON.out.pos))⟩ ?_
  refine Flow.value rfl (fun wx hS => by exact exec_load_blk 83 (.tmp 7) rfl (N1 + 1) rfl 83 _ (0, 0) _ hS.2.1 Tryd.underlying83 rfl (cells83 HGL.out)) ?_
  try simp only [Act.put, List.setIfInBounds_toArray, List.set_cons_zero, List.set_cons_succ]
  refine Flow.value rfl (fun wx hS => by have hs := hs80; go_simp; with_reducible rfl) ?_
  try simp only [Act.put, List.setIfInBounds_toArray, List.set_cons_zero, List.set_cons_succ]
  refine Flow.value rfl (fun wx hS => by go_simp; with_reducible rfl) ?_
  try simp only [Act.put, List.setIfInBounds_toArray, List.set_cons_zero, List.set_cons_succ]
  refine Flow.value rfl (fun wx hS => by go_simp; with_reducible rfl) ?_
  try simp only [Act.put, List.setIfInBounds_toArray, List.set_cons_zero, List.set_cons_succ]
  refine Flow.value (v := .int .i64 vn) rfl (fun wx hS => by go_simp; first | done | with_reducible rfl | rfl) ?_
  try simp only [Act.put, List.setIfInBounds_toArray, List.set_cons_zero, List.set_cons_succ]
  refine Flow.value (v := .int .i64 n16) rfl (fun wx hS => by go_simp; first | done | simp [hw1, hw2] | rfl) ?_
  try simp only [Act.put, List.setIfInBounds_toArray, List.set_cons_zero, List.set_cons_succ]
  refine Flow.value (v := vf) rfl (fun wx hS => by have hs := hvf; go_simp; first | done | exact hvf wx | with_reducible rfl) ?_
  try simp only [Act.put, List.setIfInBounds_toArray, List.set_cons_zero, List.set_cons_succ]
  refine Flow.call (v := dgV T) rfl (f := 35) (args := #[.slice (some ⟨K, 0, none⟩) 32 32, vf]) (fun wx hS => by go_simp) (fun wx hS => ?_) ?_
  · have hkh : HoldsB wx wx.heap.size (.slice (some ⟨K, 0, none⟩) 32 32) key := by
      have := HoldsB.ofBytes hS.2.2.2.2.2.1 HKEY.out.2 (by rw [HKEY.out.1]; decide)
      rw [HKEY.out.1] at this
      exact this
    have hq := tag_any wx.heap.size M _ _ key L wx hS.2.2.2.2.2.2.2 hkh hS.2.2.2.2.2.2.1 (by rw [HKEY.out.1]; decide) (by have := HLN.out; have := HL.out; omega)
    rw [show halfL (macL key L) = T from HT.out.symm] at hq
    exact hq
  try simp only [Act.put, List.setIfInBounds_toArray, List.set_cons_zero, List.set_cons_succ]
  refine Flow.call (v := .bool true) rfl (f := 46) (args := #[dgV G, dgV T]) (fun wx hS => by go_simp) (fun wx hS => ?_) ?_
  · have hq := same_any G T wx HGL.out HGB.out HTL.out.1 HTL.out.2
    rw [show decide (G = T) = true from HGT.out] at hq
    exact hq
  try simp only [Act.put, List.setIfInBounds_toArray, List.set_cons_zero, List.set_cons_succ]
  refine Flow.value (v := .bool false) rfl (fun wx hS => by go_simp; first | done | rfl) ?_
  try simp only [Act.put, List.setIfInBounds_toArray, List.set_cons_zero, List.set_cons_succ]
  refine Flow.done ?_
  intro w5 hS
  have H5 := Kp.mk hS
  clear hS
  go_wp2_with (first
    | (refine wpList_load_row rfl 30 (.tmp 6) rfl N1 rfl 30 #[.int .i64 p.fr, .int .i64 p.to, .int .u64 p.bo, .int .u64 p.co, .int .i64 p.ki, .slice p.a p.n p.c] (0, 0) _ H5.out.1 Tryd.underlying30 rfl info30s ?_)
    | (refine wpList_store_row rfl 30 (.tmp 4) (.tmp 30) rfl (K + 1) #[.int .i64 p.fr, .int .i64 p.to, .int .u64 p.bo, .int .u64 p.co, .int .i64 p.ki, .slice p.a p.n p.c] rfl rfl 30 _ H5.out.2.2.1 info30s rfl (six_one _ _ _ _ _ _ _ _) ?_; refine wpl_world (w := w5.setRow (K + 1) #[.int .i64 p.fr, .int .i64 p.to, .int .u64 p.bo, .int .u64 p.co, .int .i64 p.ki, .slice p.a p.n p.c]) (fun W => Blk W (K + 1) (.cells #[.int .i64 p.fr, .int .i64 p.to, .int .u64 p.bo, .int .u64 p.co, .int .i64 p.ki, .slice p.a p.n p.c] 30) ∧ Below K w W ∧ HoldsB W N1 (.slice a (xT B).length c) (xT B) ∧ N1 ≤ W.heap.size) ⟨(Turn.ofRow H5.out.2.2.1 _).blk, H5.out.2.2.2.1.trans ((Turn.ofRow H5.out.2.2.1 _).below (by omega) (by have := H5.out.2.2.1.lt; omega)), hoff H5.out.2.2.1 H5.out.2.2.2.2.1, by have := H5.out.1.lt; simp [World.setRow]; omega⟩ ?_; rintro w6 h6; have H6 := Kp.mk h6; clear h6))
  have HOE : Kp (oErr key B = 0) := ⟨by unfold oErr; rw [if_neg (by simp [H00.out]), ← HN16.out.1, ← HLE.out, ← HTQ.out, if_pos (of_decide_eq_true HEQ.out)]⟩
  exact bodyPost_ret (results_row_tmp rfl _ _ (K + 1) 30 _ (0, 0) _ (.int .i64 0) rfl rfl H6.out.1 Tryd.underlying30 rfl info30s) rfl ⟨a, c, by rw [yF_good HOE.out H00.out, ← HP.out, HOE.out], by rw [yT_good HOE.out H00.out]; exact H6.out.2.2.1.mono H6.out.2.2.2, by rw [← HK.out]; exact H6.out.2.1⟩
/-- frame.Open. -/
theorem open_any (M : Nat) (v : Value) (key B : List Int) (w : World) (hk : KonIs w) (hkey : key.length = 32 ∧ Bytes key) (h : HoldsB w M v B) (hM : M ≤ w.heap.size) (hr : B.length ≤ 140737488351232) (h16 : tErr B = 0 → 16 ≤ B.length) : Calls Tryd.prog 16 #[dgV key, v] w (OpenPost key B w) := by
  by_cases h0 : tErr B = 0
  · cases hq : decide (tTag B = tagM key (B.take (B.length - 16))) with
    | false => exact open_bad M v key B w hk hkey h hM hr h0 _ rfl (h16 h0) _ rfl _ rfl hq
    | true => exact open_good M v key B w hk hkey h hM hr h0 _ rfl (h16 h0) _ rfl _ rfl hq
  · exact open_err M v key B w hk hkey h hM hr h0
end Go.Proofs.YtgabjmmmiogfjaaDoor
