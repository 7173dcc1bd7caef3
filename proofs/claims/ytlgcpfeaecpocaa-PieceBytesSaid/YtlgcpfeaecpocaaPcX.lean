/-
  The piece of any bytes: the document's.
-/
import Derived.Test.YtlgcpfeaecpocaaPcW
import Derived.Test.YtlgcpfeaecpocaaPcV
namespace Go.Proofs.Ytlgcpfeaecpocaa
open Go.RowKit

abbrev rz : Array Value := #[.int .u32 0, .int .i64 0, .int .i64 0, .slice none 0 0]
/-- The document's Get, on its way: its result stands in F, its In in R, its piece in K. -/
structure DSt (w : World) (M F R K : Nat) (cs : Array Value) (B : List Int) (at' : Nat) (e : Int) (W : World) : Prop where
  i : RefIs W M R B at' e
  f : Blk W F (.cells rz 25)
  k : Blk W K (.cells cs 25)
  below : Below F w W
  mf : M ≤ F
  fr : F < R
  rk : R < K
theorem DSt.step {w W W' : World} {M F R K a a' : Nat} {cs : Array Value} {B : List Int} {e e' : Int} (h : DSt w M F R K cs B a e W) (hs : RefStep M R B a' e' W W') : DSt w M F R K cs B a' e' W' := by
  have h1 := h.fr
  have h2 := h.rk
  have h3 := h.f.lt
  refine ⟨hs.is, hs.keep h.f (by omega), hs.keep h.k (by omega), ?_, h.mf, h.fr, h.rk⟩
  obtain ⟨_, o, ho⟩ := hs
  exact h.below.trans (ho.below (by omega) (by omega))
theorem DSt.put {w W : World} {M F R K a : Nat} {cs : Array Value} {B : List Int} {e : Int} (h : DSt w M F R K cs B a e W) (i : Nat) (v : Value) : DSt w M F R K (cs.setIfInBounds i v) B a e (W.setCell ⟨K, i, none⟩ v) := by
  have h1 := h.fr
  have h2 := h.rk
  have h3 := h.f.lt
  have hT := (Turn.same h.k).set i v
  exact ⟨h.i.turn hT (by have := h.mf; omega) (by omega), hT.keep h.f (by omega), hT.blk, h.below.trans (hT.below (by omega) (by omega)), h.mf, h.fr, h.rk⟩
set_option maxRecDepth 100000 in
set_option maxHeartbeats 4000000 in
theorem rget_any (M : Nat) (v : Value) (B : List Int) (w : World) (h : HoldsB w M v B) (hM : M ≤ w.heap.size) : Calls Try.prog 13 #[v] w (GetPost B w) := by
  have HBB := Kp.mk h.bytes
  have H := Kp.mk h
  obtain ⟨va, vn, vc, rfl, -⟩ := h.slice
  clear h
  go_enter Try.func13, Try.ntmps13
  go_wp2_with fail
  obtain ⟨F, hF⟩ : ∃ F, F = w.heap.size := ⟨_, rfl⟩
  have HFe := Kp.mk hF
  have S0 : Kp (DSt w M F (F + 1) (F + 1 + 1) rz B 0 0 (((w.alloc (.cells rz 25)).alloc (.cells #[.slice va vn vc, .int .i64 0, .int .i64 0] 81)).alloc (.cells rz 25))) := ⟨⟨⟨by omega, ⟨_, ((H.out.alloc _).alloc _).alloc _, ((Blk.newAt _ (by simp [hF])).old _)⟩, by omega⟩, ((Blk.newAt _ hF).old _).old _, Blk.newAt _ (by simp [hF]), by rw [hF]; exact more (more (more (Below.refl _ _) _) _) _, by omega, by omega, by omega⟩⟩
  rw [← hF]
  clear hF
  generalize ((w.alloc (.cells rz 25)).alloc (.cells #[.slice va vn vc, .int .i64 0, .int .i64 0] 81)).alloc (.cells rz 25) = W0 at *
  refine (num_any M (F + 1) B _ _ 4 _ S0.out.i (by decide)).mono ?_
  rintro r w1 ⟨rfl, s1⟩
  rw [show numOf (rawP B 0 0 4) = gN1 B from rfl]
  have S1 : Kp (DSt w M F (F + 1) (F + 1 + 1) rz B (gA1 B) (gE1 B) w1) := ⟨S0.out.step s1⟩
  have B1 := gN1_lt HBB.out
  clear s1 S0
  obtain ⟨n1, hn1⟩ : ∃ n1, n1 = gN1 B := ⟨_, rfl⟩
  have HN1 := Kp.mk hn1
  rw [← hn1] at B1 ⊢
  clear hn1
  have k1 : IntKind.u32.wrap n1 = n1 := by simp [IntKind.wrap, IntKind.bits, IntKind.signed]; omega
  have p0 := S1.out.k.frozen 0
  have c0 := S1.out.k.cell 0
  go_wp2_with fail
  have T1 : Kp (DSt w M F (F + 1) (F + 1 + 1) #[.int .u32 n1, .int .i64 0, .int .i64 0, .slice none 0 0] B (gA1 B) (gE1 B) (w1.setCell ⟨F + 1 + 1, 0, none⟩ (.int .u32 n1))) := ⟨S1.out.put 0 _⟩
  clear p0 c0 S1
  generalize w1.setCell ⟨F + 1 + 1, 0, none⟩ (.int .u32 n1) = W1 at *
  refine (num_any M (F + 1) B _ _ 1 _ T1.out.i (by decide)).mono ?_
  rintro r w2 ⟨rfl, s1⟩
  rw [show numOf (rawP B (gA1 B) (gE1 B) 1) = gN2 B from rfl]
  have S2 : Kp (DSt w M F (F + 1) (F + 1 + 1) #[.int .u32 n1, .int .i64 0, .int .i64 0, .slice none 0 0] B (gA2 B) (gE2 B) w2) := ⟨T1.out.step s1⟩
  have B2 := gN2_lt HBB.out
  clear s1 T1
  obtain ⟨n2, hn2⟩ : ∃ n2, n2 = gN2 B := ⟨_, rfl⟩
  have HN2 := Kp.mk hn2
  rw [← hn2] at B2 ⊢
  clear hn2
  have k2 : IntKind.i64.wrap n2 = n2 := by simp [IntKind.wrap, IntKind.bits, IntKind.signed]; omega
  have p0 := S2.out.k.frozen 1
  have c0 := S2.out.k.cell 1
  go_wp2_with fail
  have T2 : Kp (DSt w M F (F + 1) (F + 1 + 1) #[.int .u32 n1, .int .i64 n2, .int .i64 0, .slice none 0 0] B (gA2 B) (gE2 B) (w2.setCell ⟨F + 1 + 1, 1, none⟩ (.int .i64 n2))) := ⟨S2.out.put 1 _⟩
  clear p0 c0 S2
  generalize w2.setCell ⟨F + 1 + 1, 1, none⟩ (.int .i64 n2) = W2 at *
  refine (num_any M (F + 1) B _ _ 1 _ T2.out.i (by decide)).mono ?_
  rintro r w3 ⟨rfl, s1⟩
  rw [show numOf (rawP B (gA2 B) (gE2 B) 1) = gN3 B from rfl]
  have S3 : Kp (DSt w M F (F + 1) (F + 1 + 1) #[.int .u32 n1, .int .i64 n2, .int .i64 0, .slice none 0 0] B (gA3 B) (gE3 B) w3) := ⟨T2.out.step s1⟩
  have B3 := gN3_lt HBB.out
  clear s1 T2
  obtain ⟨n3, hn3⟩ : ∃ n3, n3 = gN3 B := ⟨_, rfl⟩
  have HN3 := Kp.mk hn3
  rw [← hn3] at B3 ⊢
  clear hn3
  have k3 : IntKind.i64.wrap n3 = n3 := by simp [IntKind.wrap, IntKind.bits, IntKind.signed]; omega
  have p0 := S3.out.k.frozen 2
  have c0 := S3.out.k.cell 2
  go_wp2_with fail
  have T3 : Kp (DSt w M F (F + 1) (F + 1 + 1) #[.int .u32 n1, .int .i64 n2, .int .i64 n3, .slice none 0 0] B (gA3 B) (gE3 B) (w3.setCell ⟨F + 1 + 1, 2, none⟩ (.int .i64 n3))) := ⟨S3.out.put 2 _⟩
  clear p0 c0 S3
  generalize w3.setCell ⟨F + 1 + 1, 2, none⟩ (.int .i64 n3) = W3 at *
  refine (rblob_any M (F + 1) B _ _ 4096 _ T3.out.i (by decide) (by decide)).mono ?_
  rintro r w4 ⟨v4, rfl, ⟨hy, ho⟩, s1⟩
  rw [show rblobP B (gA3 B) (gE3 B) 4096 = gP B from rfl] at ho hy
  have S4 : Kp (DSt w M F (F + 1) (F + 1 + 1) #[.int .u32 n1, .int .i64 n2, .int .i64 n3, .slice none 0 0] B (gA4 B) (gE4 B) w4) := ⟨T3.out.step s1⟩
  have HI4 : Kp (F + 1 + 1 < W3.heap.size) := ⟨T3.out.k.lt⟩
  have HO4 := Kp.mk ho
  have HPB := Kp.mk hy
  obtain ⟨a4, m4, c4, rfl⟩ := row_shape ho
  have hm4 : m4 = (gP B).length := by
    rcases ho.2 with ⟨e, h0⟩ | ⟨g, cap, cur, e, _⟩
    · simp only [Value.slice.injEq] at e; omega
    · simp only [Value.slice.injEq] at e; omega
  subst hm4
  clear s1 T3 ho hy
  have p0 := S4.out.k.frozen 3
  have c0 := S4.out.k.cell 3
  go_wp2_with fail
  have T4 : Kp (DSt w M F (F + 1) (F + 1 + 1) #[.int .u32 n1, .int .i64 n2, .int .i64 n3, .slice a4 (gP B).length c4] B (gA4 B) (gE4 B) (w4.setCell ⟨F + 1 + 1, 3, none⟩ (.slice a4 (gP B).length c4))) := ⟨S4.out.put 3 _⟩
  have HO5 : Kp ((w4.setCell ⟨F + 1 + 1, 3, none⟩ (.slice a4 (gP B).length c4)).ownsRow W3.heap.size 5 1 (.slice a4 (gP B).length c4) (gP B).length (bv (gP B))) := ⟨ownsRow_turn HO4.out ((Turn.same S4.out.k).set 3 _) HI4.out⟩
  clear p0 c0 S4 HO4
  generalize w4.setCell ⟨F + 1 + 1, 3, none⟩ (.slice a4 (gP B).length c4) = W4 at *
  refine (rend_any M (F + 1) B _ _ _ T4.out.i).mono ?_
  rintro r w7 ⟨rfl, o7, ho7⟩
  rw [show (if 0 < rleft B (gA4 B) (gE4 B) then 10 else gE4 B) = gEnd B from rfl]
  have HF7 : Kp (Blk w7 F (.cells rz 25) ∧ Below F w w7) := ⟨ho7.keep T4.out.f (by omega), T4.out.below.trans (ho7.below (by omega) (by have := T4.out.f.lt; omega))⟩
  have HK7 : Kp (Blk w7 (F + 1 + 1) (.cells #[.int .u32 n1, .int .i64 n2, .int .i64 n3, .slice a4 (gP B).length c4] 25)) := ⟨ho7.keep T4.out.k (by omega)⟩
  have HO7 : Kp (w7.ownsRow W3.heap.size 5 1 (.slice a4 (gP B).length c4) (gP B).length (bv (gP B))) := ⟨ownsRow_turn HO5.out ho7 (by have := HI4.out; omega)⟩
  clear ho7 T4 HO5
  obtain ⟨K, hK⟩ : ∃ K, K = F + 1 + 1 := ⟨_, rfl⟩
  rw [← hK] at HK7 HI4 ⊢
  have HKE := Kp.mk hK
  clear hK
  by_cases he : gEnd B = 0
  · have HE0 := Kp.mk he
    rw [he]
    clear he
    go_wp2_with (refine wpList_load_row rfl 25 (.tmp 5) rfl K rfl 25 #[.int .u32 n1, .int .i64 n2, .int .i64 n3, .slice a4 (gP B).length c4] (0, 0) _ HK7.out Try.underlying25 rfl info25s ?_)
    refine (rright_any ⟨n1, n2, n3, a4, (gP B).length, c4⟩ w7).mono ?_
    rintro r w8 ⟨rfl, hb⟩
    have hgr : rightB ⟨n1, n2, n3, a4, (gP B).length, c4⟩ = gR B := by rw [HN2.out, HN3.out]; rfl
    rw [hgr]
    have HF8 : Kp (Blk w8 F (.cells rz 25) ∧ Below F w w8) := ⟨HF7.out.1.keep hb, HF7.out.2.trans (hb.mono (by have := HF7.out.1.lt; omega))⟩
    have HK8 : Kp (Blk w8 K (.cells #[.int .u32 n1, .int .i64 n2, .int .i64 n3, .slice a4 (gP B).length c4] 25)) := ⟨HK7.out.keep hb⟩
    have HO8 : Kp (w8.ownsRow W3.heap.size 5 1 (.slice a4 (gP B).length c4) (gP B).length (bv (gP B))) := ⟨ownsRow_below HO7.out hb⟩
    have HFK : Kp (F < W3.heap.size) := ⟨by have := HKE.out; have := HI4.out; omega⟩
    clear hb hgr HF7 HK7 HO7
    have HTH := Kp.mk (there4 HF8.out.1)
    cases hrr : gR B with
    | true =>
      have HRR := Kp.mk hrr
      have HTU := Kp.mk (turn4 HF8.out.1 (.int .u32 n1) (.int .i64 n2) (.int .i64 n3) (.slice a4 (gP B).length c4))
      have H1C : Kp ((#[.int .u32 n1, .int .i64 n2, .int .i64 n3, .slice a4 (gP B).length c4] : Array Value).all (·.oneCell') = true) := ⟨one4 _ _ _ _ _ _⟩
      clear hrr
      go_wp2_with (first
        | (refine wpList_load_row rfl 25 (.tmp 5) rfl K rfl 25 #[.int .u32 n1, .int .i64 n2, .int .i64 n3, .slice a4 (gP B).length c4] (0, 0) _ HK8.out Try.underlying25 rfl info25s ?_)
        | (refine wpList_store_mid rfl 25 (.tmp 2) (.tmp 35) rfl F 0 #[.int .u32 n1, .int .i64 n2, .int .i64 n3, .slice a4 (gP B).length c4] rfl rfl HTH.out info25s H1C.out ?_; refine wpl_world (Turn F (.cells #[.int .u32 n1, .int .i64 n2, .int .i64 n3, .slice a4 (gP B).length c4] 25) w8) HTU.out ?_; intro W9 HT9))
      have HGE : Kp (getE B = 0) := ⟨by unfold getE; rw [if_neg (by simp [HE0.out]), if_pos HRR.out]⟩
      have HO9 : Kp (HoldsB W9 W9.heap.size (.slice a4 (gP B).length c4) (gP B)) := ⟨HoldsB.ofRow HPB.out (ownsRow_turn HO8.out HT9 HFK.out)⟩
      have HB9 : Kp (Below F w W9) := ⟨HF8.out.2.trans (HT9.below (Nat.le_refl _) (by have := HF8.out.1.lt; omega))⟩
      have HBK := Kp.mk HT9.blk
      clear HT9
      exact bodyPost_ret (results_row_tmp rfl _ _ F 25 _ (0, 0) _ _ rfl rfl HBK.out Try.underlying25 rfl info25s) rfl ⟨a4, c4, by unfold gX gT; rw [if_pos HGE.out, if_pos HGE.out, if_pos HGE.out, if_pos HGE.out, HGE.out, HN1.out, HN2.out, HN3.out]; rfl, by unfold gT; rw [if_pos HGE.out]; exact HO9.out, by rw [← HFe.out]; exact HB9.out⟩
    | false =>
      have HRR := Kp.mk hrr
      have HTU := Kp.mk (turn4 HF8.out.1 (.int .u32 0) (.int .i64 0) (.int .i64 0) (.slice none 0 0))
      have H1C : Kp ((#[.int .u32 0, .int .i64 0, .int .i64 0, .slice none 0 0] : Array Value).all (·.oneCell') = true) := ⟨one4 _ _ _ _ _ _⟩
      clear hrr
      go_wp2_with (refine wpList_store_mid rfl 25 (.tmp 2) (.tmp 34) rfl F 0 #[.int .u32 0, .int .i64 0, .int .i64 0, .slice none 0 0] rfl rfl HTH.out info25s H1C.out ?_; refine wpl_world (Turn F (.cells #[.int .u32 0, .int .i64 0, .int .i64 0, .slice none 0 0] 25) w8) HTU.out ?_; intro W9 HT9)
      have HGE : Kp (getE B = 10) := ⟨by unfold getE; rw [if_neg (by simp [HE0.out]), if_neg (by rw [HRR.out]; decide)]⟩
      have HB9 : Kp (Below F w W9) := ⟨HF8.out.2.trans (HT9.below (Nat.le_refl _) (by have := HF8.out.1.lt; omega))⟩
      have HBK := Kp.mk HT9.blk
      clear HT9
      exact bodyPost_ret (results_row_tmp rfl _ _ F 25 _ (0, 0) _ _ rfl rfl HBK.out Try.underlying25 rfl info25s) rfl ⟨none, 0, by unfold gX gT; rw [HGE.out]; rfl, by unfold gT; rw [HGE.out]; exact HoldsB.nil _ _, by rw [← HFe.out]; exact HB9.out⟩
  · have HGE : Kp (getE B = gEnd B) := ⟨by unfold getE; rw [if_pos he]⟩
    have HNE := Kp.mk he
    have hk1 : (gEnd B == 0) = false := by simpa using he
    have hk2 : (gEnd B != 0) = true := by simpa using he
    have HTH := Kp.mk (there4 HF7.out.1)
    have HTU := Kp.mk (turn4 HF7.out.1 (.int .u32 0) (.int .i64 0) (.int .i64 0) (.slice none 0 0))
    have H1C : Kp ((#[.int .u32 0, .int .i64 0, .int .i64 0, .slice none 0 0] : Array Value).all (·.oneCell') = true) := ⟨one4 _ _ _ _ _ _⟩
    clear he
    generalize gEnd B = E at *
    go_wp2_with (refine wpList_store_mid rfl 25 (.tmp 2) (.tmp 29) rfl F 0 #[.int .u32 0, .int .i64 0, .int .i64 0, .slice none 0 0] rfl rfl HTH.out info25s H1C.out ?_; refine wpl_world (Turn F (.cells #[.int .u32 0, .int .i64 0, .int .i64 0, .slice none 0 0] 25) w7) HTU.out ?_; intro W9 HT9)
    have HB9 : Kp (Below F w W9) := ⟨HF7.out.2.trans (HT9.below (Nat.le_refl _) (by have := HF7.out.1.lt; omega))⟩
    have HBK := Kp.mk HT9.blk
    clear HT9
    exact bodyPost_ret (results_row_tmp rfl _ _ F 25 _ (0, 0) _ _ rfl rfl HBK.out Try.underlying25 rfl info25s) rfl ⟨none, 0, by unfold gX gT; rw [if_neg (by rw [HGE.out]; exact HNE.out), if_neg (by rw [HGE.out]; exact HNE.out), if_neg (by rw [HGE.out]; exact HNE.out), if_neg (by rw [HGE.out]; exact HNE.out), HGE.out]; rfl, by unfold gT; rw [if_neg (by rw [HGE.out]; exact HNE.out)]; exact HoldsB.nil _ _, by rw [← HFe.out]; exact HB9.out⟩
end Go.Proofs.Ytlgcpfeaecpocaa
