/-
  frame.Peek; From; Same.
-/
import Derived.Test.YtgabjmmmiogfjaaDoorFrP
namespace Go.Proofs.YtgabjmmmiogfjaaDoor
open Go.RowKit

theorem results_row_tmp {P : Program} {fn : Func} {p q : Tmp} {ty : TypeId} (h : fn.results = #[.cell p ty, .tmp q]) (tmps : Array Value) (w : World) (g : Nat) (t : TypeId) (cs : Array Value) (fr : Nat × Nat) (d : TypeDesc) (u : Value)
    (hp : tmps.getD p undef = .pointer (some ⟨g, 0, none⟩)) (hq : tmps.getD q undef = u) (hg : w.heap[g]? = some (.cells cs t fr))
    (hu : P.underlying ty = some d) (hd : (match d with | .struct _ | .array _ _ => true | _ => false) = true) (hi : (P.info? ty).map (·.size) = some cs.size) :
    (results fn tmps).run P w = .ok (.tuple #[.agg cs, u]) w := by
  have hp' : tmps[p]?.getD undef = .pointer (some ⟨g, 0, none⟩) := by simpa using hp
  have hq' : tmps[q]?.getD undef = u := by simpa using hq
  simp [results, h, hp', hq', asAddr, run_loadVar_row w g t ty cs fr d hg hu hd hi]
def PeekPost (B : List Int) (w : World) (r : Ending) (w' : World) : Prop :=
  ∃ a c, r = .returned (.tuple #[(xF B a c).v, .int .i64 (tErr B)]) ∧ HoldsB w' w'.heap.size (.slice a (xT B).length c) (xT B) ∧ Below w.heap.size w w'
theorem xG_len (B : List Int) : (xG B).length = 16 := by unfold xG; split; · exact tTag_len B
                                                         · rfl
/-- A store into a box of a frame leaves bytes as they are. -/
theorem hoff {w : World} {M g : Nat} {u : Value} {l : List Int} {x0 x1 x4 : Int} {x2 x3 : Int} {x5 : Value} {t : TypeId} {cs : Array Value} (hb : Blk w g (.cells #[.int .i64 x0, .int .i64 x1, .int .u64 x2, .int .u64 x3, .int .i64 x4, x5] t)) (h : HoldsB w M u l) (hs : ∀ n, x5 ≠ .int .u8 n := by (intro n e; cases e)) : HoldsB (w.setRow g cs) M u l := by
  obtain ⟨a, cap, h1, h2, h3, h4, h5, h6, h7⟩ := h
  refine ⟨a, cap, h1, h2, h3, h4, fun x hx h0 => ⟨(h5 x hx h0).1, (h5 x hx h0).2.1, by simpa [World.setRow] using (h5 x hx h0).2.2⟩, fun x i hx hi => ?_, h7⟩
  have h8 := h6 x i hx hi
  by_cases e : x.block = g
  · exfalso
    rw [e, hb.cell (x.off + i)] at h8
    match x.off + i, h8 with
    | 0, h8 => simp at h8
    | 1, h8 => simp at h8
    | 2, h8 => simp at h8
    | 3, h8 => simp at h8
    | 4, h8 => simp at h8
    | 5, h8 => exact hs _ (by simpa using h8)
    | k + 6, h8 => simp at h8
  · have : (w.setRow g cs).cell? ⟨x.block, x.off + i, none⟩ = w.cell? ⟨x.block, x.off + i, none⟩ := World.cell?_of_block (setRow_other _ _ _ _ e)
    rw [this]
    exact h8
set_option maxRecDepth 100000 in
set_option maxHeartbeats 4000000 in
theorem peek_any (M : Nat) (v : Value) (B : List Int) (w : World) (h : HoldsB w M v B) (hr : B.length ≤ 140737488351232) : Calls Tryd.prog 14 #[v] w (PeekPost B w) := by
  have H := Kp.mk h
  have HL := Kp.mk hr
  obtain ⟨va, vn, vc, rfl, -⟩ := h.slice
  obtain ⟨F, hF⟩ : ∃ F, F = w.heap.size := ⟨_, rfl⟩
  have HFe := Kp.mk hF
  clear h hr hF
  go_enter Tryd.func14, Tryd.ntmps14
  go_wp2_with fail
  refine (taken_any M _ B _ (H.out.alloc RZ) HL.out).mono ?_
  rintro r w1 ⟨a, c, rfl, hh, hb⟩
  rw [← HFe.out]
  obtain ⟨p, hp⟩ : ∃ p, p = xF B a c := ⟨_, rfl⟩
  obtain ⟨G, hG⟩ : ∃ G, G = xG B := ⟨_, rfl⟩
  obtain ⟨E, hE⟩ : ∃ E, E = tErr B := ⟨_, rfl⟩
  have HP := Kp.mk hp
  have HE := Kp.mk hE
  have HGL : Kp (G.length = 16) := ⟨by rw [hG]; exact xG_len B⟩
  rw [← hp, ← hG, ← hE]
  clear hp hG hE
  have HF : Kp (Blk w1 F RZ) := ⟨(Blk.newAt _ HFe.out).keep hb⟩
  have HB : Kp (Below F w w1) := ⟨by rw [HFe.out]; exact (more (Below.refl _ _) _).trans (hb.mono (by simp))⟩
  have HH := Kp.mk hh
  clear hh hb
  obtain ⟨N1, hN1⟩ : ∃ N1, N1 = w1.heap.size := ⟨_, rfl⟩
  have HN1 := Kp.mk hN1
  have HFN : Kp (F < N1) := ⟨by rw [hN1]; exact HF.out.lt⟩
  clear hN1
  unfold FV.v
  go_wp2_with (first
    | (refine wpList_alloc_row rfl 83 rfl _ _ infoz83 ?_; rw [show (w1.alloc RZ).heap.size = N1 + 1 by rw [HN1.out]; simp, ← HN1.out]; refine wpl_world (w := (w1.alloc RZ).alloc (.cells (kv .u8 (fill 16 [])).toArray 83)) (fun W => Blk W N1 RZ ∧ Row W (N1 + 1) 83 .u8 (fill 16 []) ∧ Blk W F RZ ∧ Below F w W ∧ HoldsB W N1 (.slice a (xT B).length c) (xT B)) ⟨(Blk.newAt _ HN1.out).old _, Blk.newAt _ (by rw [HN1.out]; simp), (HF.out.old _).old _, (HB.out.alloc (by have := HF.out.lt; omega) _).alloc (by have := HF.out.lt; simp; omega) _, by rw [HN1.out]; exact (HH.out.alloc _).alloc _⟩ ?_; rintro w2 h2; have H2 := Kp.mk h2; clear h2)
    | (refine wpList_store_row rfl 30 (.tmp 4) (.tmp 10) rfl N1 #[.int .i64 p.fr, .int .i64 p.to, .int .u64 p.bo, .int .u64 p.co, .int .i64 p.ki, .slice p.a p.n p.c] rfl rfl 30 _ H2.out.1 info30s rfl (six_one _ _ _ _ _ _ _ _) ?_; refine wpl_world (w := w2.setRow N1 #[.int .i64 p.fr, .int .i64 p.to, .int .u64 p.bo, .int .u64 p.co, .int .i64 p.ki, .slice p.a p.n p.c]) (fun W => Blk W N1 (p.box 30) ∧ Row W (N1 + 1) 83 .u8 (fill 16 []) ∧ Blk W F RZ ∧ Below F w W ∧ HoldsB W N1 (.slice a (xT B).length c) (xT B)) ⟨(Turn.ofRow H2.out.1 _).blk, (Turn.ofRow H2.out.1 _).keep H2.out.2.1 (by omega), (Turn.ofRow H2.out.1 _).keep H2.out.2.2.1 (Nat.ne_of_lt HFN.out), H2.out.2.2.2.1.trans ((Turn.ofRow H2.out.1 _).below (Nat.le_of_lt HFN.out) (by have := H2.out.2.2.1.lt; omega)), H2.out.2.2.2.2.turn (Turn.ofRow H2.out.1 _) (Nat.le_refl _)⟩ ?_; rintro w3 h3; have H3 := Kp.mk h3; clear h3)
    | (refine wpList_store_row rfl 83 (.tmp 5) (.tmp 11) rfl (N1 + 1) (kv .u8 G).toArray rfl rfl 83 _ H3.out.2.1 (cells83 HGL.out) (size83 HGL.out) (kv_all _ _) ?_; refine wpl_world (w := w3.setRow (N1 + 1) (kv .u8 G).toArray) (fun W => Blk W N1 (p.box 30) ∧ Blk W F RZ ∧ Below F w W ∧ HoldsB W N1 (.slice a (xT B).length c) (xT B)) ⟨(Turn.ofRow H3.out.2.1 _).keep H3.out.1 (by omega), (Turn.ofRow H3.out.2.1 _).keep H3.out.2.2.1 (by have := HFN.out; omega), H3.out.2.2.2.1.trans ((Turn.ofRow H3.out.2.1 _).below (by have := HFN.out; omega) (by have := H3.out.2.2.1.lt; omega)), H3.out.2.2.2.2.turn (Turn.ofRow H3.out.2.1 _) (Nat.le_succ _)⟩ ?_; rintro w4 h4; have H4 := Kp.mk h4; clear h4)
    | (refine wpList_load_row rfl 30 (.tmp 4) rfl N1 rfl 30 #[.int .i64 p.fr, .int .i64 p.to, .int .u64 p.bo, .int .u64 p.co, .int .i64 p.ki, .slice p.a p.n p.c] (0, 0) _ H4.out.1 Tryd.underlying30 rfl info30s ?_)
    | (refine wpList_store_row rfl 30 (.tmp 2) (.tmp 13) rfl F #[.int .i64 p.fr, .int .i64 p.to, .int .u64 p.bo, .int .u64 p.co, .int .i64 p.ki, .slice p.a p.n p.c] rfl rfl 30 _ H4.out.2.1 info30s rfl (six_one _ _ _ _ _ _ _ _) ?_; refine wpl_world (w := w4.setRow F #[.int .i64 p.fr, .int .i64 p.to, .int .u64 p.bo, .int .u64 p.co, .int .i64 p.ki, .slice p.a p.n p.c]) (fun W => Blk W F (p.box 30) ∧ Below F w W ∧ HoldsB W N1 (.slice a (xT B).length c) (xT B) ∧ N1 ≤ W.heap.size) ⟨(Turn.ofRow H4.out.2.1 _).blk, H4.out.2.2.1.trans ((Turn.ofRow H4.out.2.1 _).below (Nat.le_refl _) (by have := H4.out.2.1.lt; omega)), hoff H4.out.2.1 H4.out.2.2.2, by have := H4.out.1.lt; simp [World.setRow]; omega⟩ ?_; rintro w5 h5; have H5 := Kp.mk h5; clear h5))
  exact bodyPost_ret (results_row_tmp rfl _ _ F 30 _ (0, 0) _ (.int .i64 E) rfl rfl H5.out.1 Tryd.underlying30 rfl info30s) rfl ⟨a, c, by rw [← HP.out, ← HE.out], H5.out.2.2.1.mono H5.out.2.2.2, by rw [← HFe.out]; exact H5.out.2.1⟩
end Go.Proofs.YtgabjmmmiogfjaaDoor
