/-
  spring.elements.
  grove: nil trees; the tree over one leaf.
  Element, Made, Rules; a nil spring.
  Element; what a nil spring answers.
  grove.Above.
  grove.Fold.
  grove: the tree over one leaf.
  grove: what the tree over one leaf tells; the law's example.
-/
import Derived.Test.YtibbinenhmiclaaDoorSn11
import Derived.Deep.RegionHeld3
import Derived.Deep.MidRow
namespace Go.Proofs.YtibbinenhmiclaaDoor
open Go.RowKit

theorem SpIs.ne {w : World} {B S C : Nat} {m : SpM} {n : Nat} {f : Nat → Option Value} {g : GS} {mk : Int} (h : SpIs w B S C m n f g mk) : S ≠ C := fun e => by
  subst e
  have h1 : w.heap[S]? = some (.cells (spc m S n g mk).toArray 88 (0, 0)) := h.s
  have h2 : w.heap[S]? = some (.cells (chl f n).toArray 111 (0, 0)) := h.c
  rw [h1] at h2
  simp at h2
/-- elements, on its way: what it was handed lies in A and A + 1. -/
structure EL1 (w : World) (B A S C : Nat) (m : SpM) (n : Nat) (f : Nat → Option Value) (g : GS) (mk : Int) (q : Nat) (W : World) : Prop where
  k : KonIs W
  sp : SpIs W B S C m n f g mk
  a0 : Blk W A (.cells #[.pointer (some ⟨S, 0, none⟩)] 26)
  a1 : Blk W (A + 1) (.cells #[.int .i64 q] 3)
  below : Below A w W
  az : A = w.heap.size
  b0 : 0 < B
  ba : B ≤ A
  sa : S < A
  ca : C < A
theorem EL1.more {w W W' : World} {B A S C : Nat} {m : SpM} {n : Nat} {f : Nat → Option Value} {g : GS} {mk : Int} {q : Nat} (h : EL1 w B A S C m n f g mk q W) (hb : Below W.heap.size W W') : EL1 w B A S C m n f g mk q W' :=
  ⟨h.k.keep hb, h.sp.keep hb, h.a0.keep hb, h.a1.keep hb, h.below.trans (hb.mono (Nat.le_of_lt h.a0.lt)), h.az, h.b0, h.ba, h.sa, h.ca⟩
theorem chl_keep {f : Nat → Option Value} {n q : Nat} (hq : q < n) (h0 : f q = none) : ((chl f n).set (q * 4 + 1) (.int .i32 1)).set (q * 4 + 3) (.slice none 0 0) = (chl f n).set (q * 4 + 1) (.int .i32 1) := by
  apply List.ext_getElem?
  intro j
  rw [List.getElem?_set]
  by_cases hj : q * 4 + 3 = j
  · subst hj
    have h1 := chl_at f (r := 3) (by omega) hq
    rw [h0] at h1
    rw [if_pos rfl, if_pos (by rw [List.length_set, chl_len]; omega), List.getElem?_set_ne (by omega), h1]
    rfl
  · rw [if_neg hj]
theorem EL1.lock {w W : World} {B A S C : Nat} {m : SpM} {n : Nat} {f : Nat → Option Value} {g : GS} {mk : Int} {q : Nat} (h : EL1 w B A S C m n f g mk q W) (h2 : Blk W (A + 2) (.cells #[.pointer (some ⟨C, q * 4, none⟩)] 109)) (hf : f q = none) (hq : q < n) :
    CLs w B A S C n g mk m f q (.slice none 0 0) mk (W.setCell ⟨C, q * 4 + 1, none⟩ (.int .i32 1)) := by
  have hT : Turn C (.cells (((chl f n).set (q * 4 + 1) (.int .i32 1)).set (q * 4 + 3) (.slice none 0 0)).toArray 111) W (W.setCell ⟨C, q * 4 + 1, none⟩ (.int .i32 1)) := ((Turn.same h.sp.c).set (q * 4 + 1) _).as (by rw [List.setIfInBounds_toArray, chl_keep hq hf])
  have hca := h.ca
  have hsa := h.sa
  have hbl : B ≤ W.heap.size := by have := h.ba; have := h.a0.lt; omega
  exact ⟨h.k.turn hT (by have := h.b0; have := h.sp.bc; omega), hT.keep h.sp.s h.sp.ne, hT.blk, hT.keep h.a0 (by omega), hT.keep h.a1 (by omega), hT.keep h2 (by omega), fun i u hi hu => ownsRow_turnS (h.sp.el i u hi hu) hT h.sp.c (by decide), (Off.of h.below h.az h.ba).turn hT (.inr rfl) h.sp.bc hbl, h.b0, h.sp.bs, h.sp.bc, Nat.le_trans hbl hT.size, h.sp.ne, hsa, hca⟩
theorem CLs.door {w W : World} {B A S C n : Nat} {g : GS} {mk mk' : Int} {m : SpM} {f : Nat → Option Value} {q : Nat} {x : Value} (h : CLs w B A S C n g mk m f q x mk' W) (hq : q < n) (hf : f q = none) :
    W.cell? ⟨C, q * 4, none⟩ = some (.int .u32 0) ∧ W.cell? ⟨C, q * 4 + 1, none⟩ = some (.int .i32 1) ∧ W.frozen? ⟨C, q * 4, none⟩ = false ∧ W.frozen? ⟨C, q * 4 + 1, none⟩ = false := by
  refine ⟨?_, ?_, h.c.frozen (q * 4), h.c.frozen (q * 4 + 1)⟩
  · have h1 := chl_at f (r := 0) (by omega) hq
    rw [hf] at h1
    rw [h.c.cell (q * 4), List.getElem?_toArray, List.getElem?_set_ne (by omega), List.getElem?_set_ne (by omega)]
    exact h1
  · rw [h.c.cell (q * 4 + 1), List.getElem?_toArray, List.getElem?_set_ne (by omega), List.getElem?_set_self (by rw [chl_len]; omega)]
theorem CLs.unlock {w W : World} {B A S C n : Nat} {g : GS} {mk mk' : Int} {m : SpM} {f : Nat → Option Value} {q : Nat} {v : Value} (h : CLs w B A S C n g mk m f q v mk' W) {D : Nat} (hBD : B ≤ D) (hv : W.ownsRow D 43 16 v (m.st.toNat + 1) (bv (elsL m q (m.st.toNat + 1)))) (hq : q < n) (hf : f q = none) :
    SpIs ((W.drew.setCell ⟨C, q * 4, none⟩ (.int .u32 1)).setCell ⟨C, q * 4 + 1, none⟩ (.int .i32 0)) B S C m n (updF f q v) g mk' ∧ Off B S C w ((W.drew.setCell ⟨C, q * 4, none⟩ (.int .u32 1)).setCell ⟨C, q * 4 + 1, none⟩ (.int .i32 0)) ∧
      KonIs ((W.drew.setCell ⟨C, q * 4, none⟩ (.int .u32 1)).setCell ⟨C, q * 4 + 1, none⟩ (.int .i32 0)) ∧ Blk ((W.drew.setCell ⟨C, q * 4, none⟩ (.int .u32 1)).setCell ⟨C, q * 4 + 1, none⟩ (.int .i32 0)) (A + 2) (.cells #[.pointer (some ⟨C, q * 4, none⟩)] 109) := by
  have hT : Turn C (.cells (chl (updF f q v) n).toArray 111) W ((W.drew.setCell ⟨C, q * 4, none⟩ (.int .u32 1)).setCell ⟨C, q * 4 + 1, none⟩ (.int .i32 0)) := (((Turn.same h.c).drew.set (q * 4) (.int .u32 1)).set (q * 4 + 1) (.int .i32 0)).as (by rw [List.setIfInBounds_toArray, List.setIfInBounds_toArray, chl_upd hq hf])
  have hca := h.ca
  refine ⟨⟨hT.keep h.s h.sc, hT.blk, h.bs, h.bc, fun i u hi hu => ?_⟩, h.below.turn hT (.inr rfl) h.bc h.ble, h.k.turn hT (by have := h.b0; have := h.bc; omega), hT.keep h.a2 (by omega)⟩
  unfold updF at hu
  by_cases he : i = q
  · rw [if_pos he] at hu
    subst he
    obtain rfl := Option.some.inj hu
    exact ownsRow_turnS (ownsRow_base hv hBD) hT h.c (by decide)
  · rw [if_neg he] at hu
    exact ownsRow_turnS (h.el i u hi hu) hT h.c (by decide)
theorem own_geS {w : World} {B e sz n c k : Nat} {a : Option Addr} {l : Nat} {xs : List Value} (h : w.ownsRow B e sz (.slice a l c) n xs) (hk : a.map (·.block) = some k) : B ≤ k := by
  rcases h.2 with ⟨e9, _⟩ | ⟨g, cap, cur, e9, hb, _⟩
  · simp only [Value.slice.injEq] at e9
    rw [e9.1] at hk
    cases hk
  · simp only [Value.slice.injEq] at e9
    rw [e9.1] at hk
    obtain rfl := Option.some.inj hk
    exact hb
set_option maxRecDepth 100000 in
set_option maxHeartbeats 8000000 in
theorem elements_any (m : SpM) (B S C n : Nat) (f : Nat → Option Value) (g : GS) (mk : Int) (q : Nat) (w : World) (hk : KonIs w) (ho : SpOk m) (h : SpIs w B S C m n f g mk) (hb0 : 0 < B) (hbw : B ≤ w.heap.size) (hq : q < n) (hn : n ≤ 64) (hmk : 0 ≤ mk ∧ mk ≤ 1000) :
    Calls Tryd.prog 35 #[.pointer (some ⟨S, 0, none⟩), .int .i64 q] w fun r w' => ∃ a c f' mk', r = .returned (.slice a (m.st.toNat + 1) c) ∧ SpIs w' B S C m n f' g mk' ∧ f' q = some (.slice a (m.st.toNat + 1) c) ∧
      (f q ≠ none → f' = f ∧ mk' = mk) ∧ (f q = none → f' = updF f q (.slice a (m.st.toNat + 1) c) ∧ mk' = mk + 1 ∧ ∀ k, a.map (·.block) = some k → w.heap.size ≤ k) ∧ Off B S C w w' ∧ KonIs w' := by
  obtain ⟨A, hA⟩ : ∃ A, A = w.heap.size := ⟨_, rfl⟩
  have HA := Kp.mk hA
  have HO := Kp.mk ho
  have HQ := Kp.mk (And.intro hq hn)
  have HMK := Kp.mk hmk
  have H1 : Kp (EL1 w B A S C m n f g mk q ((w.alloc (.cells #[.pointer (some ⟨S, 0, none⟩)] 26)).alloc (.cells #[.int .i64 q] 3))) := ⟨⟨(hk.keep (more (Below.refl _ _) _)).keep (more (Below.refl _ _) _), (h.keep (more (Below.refl _ _) _)).keep (more (Below.refl _ _) _), (Blk.newAt _ hA).old _, Blk.newAt _ (by simp [hA]), by rw [hA]; exact more (more (Below.refl _ _) _) _, hA, hb0, by omega, by rw [hA]; exact h.s.lt, by rw [hA]; exact h.c.lt⟩⟩
  have HZ : Kp (((w.alloc (.cells #[.pointer (some ⟨S, 0, none⟩)] 26)).alloc (.cells #[.int .i64 q] 3)).heap.size = A + 2) := ⟨by simp [hA]⟩
  clear hk ho h hb0 hbw hq hn hmk
  go_enter Tryd.func35, Tryd.ntmps35
  go_wp2_with fail
  rw [← hA]
  clear hA
  generalize (w.alloc (.cells #[.pointer (some ⟨S, 0, none⟩)] 26)).alloc (.cells #[.int .i64 q] 3) = W0 at *
  refine wp_region_held_drew (S := fun w' => Kp (EL1 w B A S C m n f g mk q w')) (by kernel_rfl) (⟨H1.out.more (Below.refl _ _).drew⟩) (fun hH => ?_)
  refine wpAnyH_take (i := 0) (oi := { dst := some 6, op := Go.Op.load 26 (Go.Operand.tmp 2), type := 26, pos := "spring.go:112", after := #[], guard := none }) (v := .pointer (some ⟨S, 0, none⟩)) rfl (by kernel_rfl) (by kernel_rfl) (by kernel_rfl) (fun _ _ _ h => h) (Or.inl ⟨by rfl, fun w hS => by have c1 : w.cell? ⟨A, 0, none⟩ = some (.pointer (some ⟨S, 0, none⟩)) := hS.out.a0.cell 0; go_simp⟩) hH ?_
  simp only [Act.put, List.setIfInBounds_toArray, List.set_cons_zero, List.set_cons_succ]
  refine wpAnyH_take (i := 1) (oi := { dst := some 7, op := Go.Op.nilCheck (Go.Operand.tmp 6), type := 0, pos := "spring.go:112", after := #[{ on := 0, ground := Go.Ground.data }], guard := none }) (v := .pointer (some ⟨S, 0, none⟩)) rfl (by kernel_rfl) (by kernel_rfl) (by kernel_rfl) (fun _ _ _ h => h) (Or.inl ⟨by rfl, fun w hS => by first | rfl | go_simp⟩) hH ?_
  simp only [Act.put, List.setIfInBounds_toArray, List.set_cons_zero, List.set_cons_succ]
  refine wpAnyH_take (i := 2) (oi := { dst := some 8, op := Go.Op.fieldAddr 88 (Go.Operand.tmp 7) 4, type := 0, pos := "spring.go:112", after := #[{ on := 1, ground := Go.Ground.data }], guard := none }) (v := .pointer (some ⟨S, 37, none⟩)) rfl (by kernel_rfl) (by kernel_rfl) (by kernel_rfl) (fun _ _ _ h => h) (Or.inl ⟨by rfl, fun w hS => by first | rfl | go_simp⟩) hH ?_
  simp only [Act.put, List.setIfInBounds_toArray, List.set_cons_zero, List.set_cons_succ]
  refine wpAnyH_take (i := 3) (oi := { dst := some 9, op := Go.Op.load 71 (Go.Operand.tmp 8), type := 71, pos := "spring.go:112", after := #[{ on := 2, ground := Go.Ground.data }], guard := none }) (v := .slice (some ⟨C, 0, none⟩) n n) rfl (by kernel_rfl) (by kernel_rfl) (by kernel_rfl) (fun _ _ _ h => h) (Or.inl ⟨by rfl, fun w hS => by have c1 : w.cell? ⟨S, 37, none⟩ = some (.slice (some ⟨C, 0, none⟩) n n) := (hS.out.sp.s.cell 37).trans (by rw [List.getElem?_toArray]; exact sp_37 HO.out.l C n g mk); go_simp⟩) hH ?_
  simp only [Act.put, List.setIfInBounds_toArray, List.set_cons_zero, List.set_cons_succ]
  refine wpAnyH_take (i := 4) (oi := { dst := some 10, op := Go.Op.load 3 (Go.Operand.tmp 3), type := 3, pos := "spring.go:112", after := #[], guard := none }) (v := .int .i64 q) rfl (by kernel_rfl) (by kernel_rfl) (by kernel_rfl) (fun _ _ _ h => h) (Or.inl ⟨by rfl, fun w hS => by have c1 : w.cell? ⟨A + 1, 0, none⟩ = some (.int .i64 q) := hS.out.a1.cell 0; go_simp⟩) hH ?_
  simp only [Act.put, List.setIfInBounds_toArray, List.set_cons_zero, List.set_cons_succ]
  refine wpAnyH_take (i := 5) (oi := { dst := some 11, op := Go.Op.indexAddr 71 (Go.Operand.tmp 9) (Go.Operand.tmp 10), type := 0, pos := "spring.go:112", after := #[{ on := 3, ground := Go.Ground.data }, { on := 4, ground := Go.Ground.data }], guard := none }) (v := .pointer (some ⟨C, q * 4, none⟩)) rfl (by kernel_rfl) (by kernel_rfl) (by kernel_rfl) (fun _ _ _ h => h) (Or.inl ⟨by rfl, fun w hS => by have hq9 := HQ.out.1; go_simp⟩) hH ?_
  simp only [Act.put, List.setIfInBounds_toArray, List.set_cons_zero, List.set_cons_succ]
  refine wpAnyH_ready (rs := [6]) (by kernel_rfl) (by simp) ?_
  refine AllReadyH.cons (o := { dst := some 5, op := Go.Op.alloc 109, type := 0, pos := "spring.go:112", after := #[], guard := none }) rfl (fun K hK => ?_) AllReadyH.nil
  go_simp
  refine hK.out _ _ (⟨hH.out.more (more (Below.refl _ _) _)⟩) (fun hHn => ?_)
  clear hK K hH
  have hH := hHn
  clear hHn
  try simp only [Act.put, List.setIfInBounds_toArray, List.set_cons_zero, List.set_cons_succ]
  refine wpAnyH_ready (rs := [7]) (by kernel_rfl) (by simp) ?_
  refine AllReadyH.cons (o := { dst := none, op := Go.Op.store 109 (Go.Operand.tmp 5) (Go.Operand.tmp 11), type := 0, pos := "spring.go:112", after := #[{ on := 6, ground := Go.Ground.data }, { on := 5, ground := Go.Ground.data }, { on := 0, ground := Go.Ground.phase }, { on := 1, ground := Go.Ground.phase }, { on := 2, ground := Go.Ground.phase }, { on := 3, ground := Go.Ground.phase }, { on := 4, ground := Go.Ground.phase }, { on := 5, ground := Go.Ground.phase }, { on := 6, ground := Go.Ground.phase }], guard := none }) rfl (fun K hK => ?_) AllReadyH.nil
  have q2 : ((W0.alloc (.cells #[.pointer none] 109)).drew).cell? ⟨W0.heap.size, 0, none⟩ = some (.pointer none) := by go_simp
  have q3 : ((W0.alloc (.cells #[.pointer none] 109)).drew).frozen? ⟨W0.heap.size, 0, none⟩ = false := by go_simp
  go_simp
  clear q2 q3
  refine hK.out _ _ (⟨(H1.out.more (more (Below.refl _ _) _)).more (Below.refl _ _).drew⟩) (fun hHn => ?_)
  clear hK K hH
  have hH := hHn
  clear hHn
  try simp only [Act.put, List.setIfInBounds_toArray, List.set_cons_zero, List.set_cons_succ]
  clear hH
  refine wpAnyH_done (by kernel_rfl) ?_ _
  have G1 : Kp (EL1 w B A S C m n f g mk q (W0.alloc (.cells #[.pointer (some ⟨C, q * 4, none⟩)] 109)).drew ∧ Blk (W0.alloc (.cells #[.pointer (some ⟨C, q * 4, none⟩)] 109)).drew (A + 2) (.cells #[.pointer (some ⟨C, q * 4, none⟩)] 109)) := ⟨(H1.out.more (more (Below.refl _ _) _)).more (Below.refl _ _).drew, by rw [← HZ.out]; exact (Blk.new _ _).keep (Below.refl _ _).drew⟩
  rw [HZ.out]
  clear H1 HZ
  generalize (W0.alloc (.cells #[.pointer (some ⟨C, q * 4, none⟩)] 109)).drew = W at *
  have y2 : W.cell? ⟨A + 2, 0, none⟩ = some (.pointer (some ⟨C, q * 4, none⟩)) := G1.out.2.cell 0
  have hmf : ∀ (fn : Fn) (first cap : Array Value) (w : World), (Instr.makeFunc fn first cap).run Tryd.prog w = .ok (.func fn first cap) w := fun _ _ _ _ => rfl
  cases hf : f q with
  | some v =>
    have HV := Kp.mk hf
    have hd : W.cell? ⟨C, q * 4, none⟩ = some (.int .u32 1) := by
      have h1 := chl_at f (r := 0) (by omega) HQ.out.1
      rw [hf] at h1
      rw [G1.out.1.sp.c.cell (q * 4), List.getElem?_toArray]
      exact h1
    obtain ⟨av, nv, cv, rfl⟩ : ∃ a n c, v = .slice a n c := by rcases (G1.out.1.sp.el q v HQ.out.1 hf).2 with ⟨e9, _⟩ | ⟨g, cap, cur, e9, _⟩ <;> exact ⟨_, _, _, e9⟩
    obtain rfl : nv = m.st.toNat + 1 := ownsRow_lenS (G1.out.1.sp.el q _ HQ.out.1 hf)
    have hv : W.cell? ⟨C, q * 4 + 3, none⟩ = some (.slice av (m.st.toNat + 1) cv) := by
      have h1 := chl_at f (r := 3) (by omega) HQ.out.1
      rw [hf] at h1
      rw [G1.out.1.sp.c.cell (q * 4 + 3), List.getElem?_toArray]
      exact h1
    clear hf
    go_wp2_with fail
    refine (do_done ⟨C, q * 4, none⟩ 1 (by decide) _ W hd).mono ?_
    rintro r w2 ⟨rfl, rfl⟩
    go_wp2_with fail
    go_ret
    exact ⟨av, cv, f, mk, rfl, G1.out.1.sp, HV.out, fun _ => ⟨rfl, rfl⟩, (fun h => by rw [HV.out] at h; cases h), Off.of G1.out.1.below G1.out.1.az G1.out.1.ba, G1.out.1.k⟩
  | none =>
    have HV := Kp.mk hf
    have HWW : Kp (w.heap.size ≤ W.heap.size) := ⟨G1.out.1.below.size⟩
    have HBW : Kp (B ≤ W.heap.size) := ⟨Nat.le_trans G1.out.1.ba (Nat.le_of_lt G1.out.1.a0.lt)⟩
    have hc0 : ∀ r, r < 4 → W.cell? ⟨C, q * 4 + r, none⟩ = (chc none)[r]? := fun r hr => by
      have h1 := chl_at f (r := r) hr HQ.out.1
      rw [hf] at h1
      rw [G1.out.1.sp.c.cell (q * 4 + r), List.getElem?_toArray]
      exact h1
    have HC0 := Kp.mk hc0
    clear hc0 hf
    go_wp2_with fail
    refine (do_first 48 #[.pointer (some ⟨A, 0, none⟩), .pointer (some ⟨A + 1, 0, none⟩), .pointer (some ⟨A + 2, 0, none⟩)] (fun w => by rfl) C (q * 4) W (fun w1 => ∃ av cv, CLs w B A S C n g mk m f q (.slice av (m.st.toNat + 1) cv) (mk + 1) w1 ∧ w1.ownsRow W.heap.size 43 16 (.slice av (m.st.toNat + 1) cv) (m.st.toNat + 1) (bv (elsL m q (m.st.toNat + 1)))) (HC0.out 0 (by decide)) (HC0.out 1 (by decide)) (G1.out.1.sp.c.frozen (q * 4)) (G1.out.1.sp.c.frozen (q * 4 + 1)) ?_ ?_).mono ?_
    · have h9 := closure_any w B A S C n g mk m f q _ HO.out HQ.out.1 HQ.out.2 HMK.out (G1.out.1.lock G1.out.2 HV.out HQ.out.1)
      rw [show (W.setCell ⟨C, q * 4 + 1, none⟩ (.int .i32 1)).heap.size = W.heap.size from by go_simp] at h9
      exact h9
    · rintro w1 ⟨av, cv, h1, -⟩
      exact h1.door HQ.out.1 HV.out
    · rintro r w2 ⟨rfl, w1, ⟨av, cv, h1, h2⟩, rfl⟩
      have G2 := Kp.mk (h1.unlock HBW.out h2 HQ.out.1 HV.out)
      have GOB : Kp (∀ k, av.map (·.block) = some k → w.heap.size ≤ k) := ⟨fun k hk => Nat.le_trans HWW.out (own_geS h2 hk)⟩
      clear h1 h2 G1 y2
      generalize (w1.drew.setCell ⟨C, q * 4, none⟩ (.int .u32 1)).setCell ⟨C, q * 4 + 1, none⟩ (.int .i32 0) = w3 at *
      have y2 : w3.cell? ⟨A + 2, 0, none⟩ = some (.pointer (some ⟨C, q * 4, none⟩)) := G2.out.2.2.2.cell 0
      have hu : updF f q (.slice av (m.st.toNat + 1) cv) q = some (.slice av (m.st.toNat + 1) cv) := by unfold updF; rw [if_pos rfl]
      have hv : w3.cell? ⟨C, q * 4 + 3, none⟩ = some (.slice av (m.st.toNat + 1) cv) := by
        have h1 := chl_at (updF f q (.slice av (m.st.toNat + 1) cv)) (r := 3) (by omega) HQ.out.1
        rw [hu] at h1
        rw [G2.out.1.c.cell (q * 4 + 3), List.getElem?_toArray]
        exact h1
      have HU := Kp.mk hu
      clear hu
      go_wp2_with fail
      go_ret
      exact ⟨av, cv, _, mk + 1, rfl, G2.out.1, HU.out, (fun h => absurd HV.out h), fun _ => ⟨rfl, rfl, GOB.out⟩, G2.out.2.1, G2.out.2.2.1⟩
end Go.Proofs.YtibbinenhmiclaaDoor

namespace Go.Proofs.YtibbinenhmiclaaDoor
open Go.RowKit

set_option maxRecDepth 100000 in
set_option maxHeartbeats 1000000 in
theorem height_any (m : Int) (w : World) : Calls Tryd.prog 54 #[.int .i64 m] w fun r w' => ∃ h, r = .returned (.int .i64 h) ∧ w' = w ∧ ((∃ i : Nat, i < 7 ∧ m = 2 ^ i ∧ h = i) ∨ ((∀ i : Nat, i < 7 → m ≠ 2 ^ i) ∧ h = -1)) := by
  go_enter Tryd.func54, Tryd.ntmps54
  go_wp2_with fail
  go_loopw [4] (fun c wr => ∃ i : Nat, i ≤ 7 ∧ c = .int .i64 i ∧ wr = w ∧ Kp (∀ j : Nat, j < i → m ≠ 2 ^ j)) (fun c _ => 7 - (intOf c).toNat)
  case atStart => exact ⟨0, by omega, rfl, rfl, ⟨fun j hj => by omega⟩⟩
  case round =>
    obtain ⟨i, hi, rfl, rfl, HN⟩ := hrel
    by_cases hlt : i < 7
    · obtain ⟨p, hp⟩ : ∃ p : Int, p = 2 ^ i := ⟨_, rfl⟩
      have hw : wrap64 ((2 : Int) ^ i) = p := by
        rcases (show i = 0 ∨ i = 1 ∨ i = 2 ∨ i = 3 ∨ i = 4 ∨ i = 5 ∨ i = 6 by omega) with rfl | rfl | rfl | rfl | rfl | rfl | rfl <;> (rw [hp]; unfold wrap64; decide)
      have HP := Kp.mk hp
      clear hp
      by_cases hm : m = p
      · have HM := Kp.mk hm
        have t1 : (m == wrap64 ((2 : Int) ^ i)) = true := by rw [hw, beq_iff_eq]; exact hm
        clear hm hw
        go_wp2_with fail
        go_ret
        exact ⟨_, rfl, rfl, .inl ⟨i, hlt, by rw [HM.out, HP.out], rfl⟩⟩
      · have HM := Kp.mk hm
        have t1 : (m == wrap64 ((2 : Int) ^ i)) = false := by rw [hw, beq_eq_false_iff_ne]; exact hm
        clear hm hw
        go_wp2_with fail
        refine ⟨⟨i + 1, by omega, by go_num, trivial, ⟨fun j hj => ?_⟩⟩, by simp [intOf]; omega⟩
        rcases Nat.lt_or_ge j i with h | h
        · exact HN.out j h
        · have : j = i := by omega
          subst this
          rw [← HP.out]
          exact HM.out
    · have hge : 7 ≤ (i : Int) := by omega
      have HI : Kp (i = 7) := ⟨by omega⟩
      clear hlt hi
      go_wp2_with fail
      go_ret
      exact ⟨_, rfl, rfl, .inr ⟨fun j hj => HN.out j (by rw [HI.out]; exact hj), rfl⟩⟩
set_option maxRecDepth 100000 in
theorem has_nil (i : Int) (w : World) : Calls Tryd.prog 47 #[.pointer none, .int .i64 i] w fun r w' => r = .returned (.bool false) ∧ w' = w := by
  go_enter Tryd.func47, Tryd.ntmps47
  go_wp2_with fail
  go_ret
  exact ⟨rfl, rfl⟩
theorem info33 : (Tryd.prog.info? 43).map (·.size) = some 16 := by kernel_rfl
abbrev zeroS : List Int := List.replicate 16 0
set_option maxRecDepth 100000 in
set_option maxHeartbeats 1000000 in
theorem root_nil (w : World) : Calls Tryd.prog 33 #[.pointer none] w fun r w' => r = .returned (dgV zeroS) ∧ Below w.heap.size w w' := by
  go_enter Tryd.func33, Tryd.ntmps33
  go_wp2_with fail
  refine calls_world (fun W => Row W w.heap.size 43 .u8 zeroS ∧ Below w.heap.size w W) ⟨Blk.newAt (w := w) z50 rfl, more (Below.refl _ _) z50⟩ ?_
  rintro w1 ⟨h1, h2⟩
  have HR := Kp.mk h1
  have HB := Kp.mk h2
  clear h1 h2
  refine (has_nil 0 w1).mono ?_
  rintro r w2 ⟨rfl, rfl⟩
  have HF := Kp.mk (HR.out.setRow zeroS)
  have HBf := Kp.mk (Below.row HB.out (g := w.heap.size) (Nat.le_refl _) (kv .u8 zeroS).toArray)
  go_wp2_with (refine wpList_store_row rfl 43 (.tmp 2) (.tmp 6) rfl w.heap.size (kv .u8 zeroS).toArray rfl rfl 43 _ HR.out (cells50 (l := zeroS) rfl) rfl (kv_all _ _) ?_)
  refine bodyPost_ret (v := dgV zeroS) ?_ rfl ⟨rfl, HBf.out⟩
  exact results_cell_row rfl _ _ w.heap.size 43 _ (0, 0) _ rfl HF.out Tryd.underlying43 rfl (cells50 (l := zeroS) rfl)
set_option maxRecDepth 100000 in
theorem path_nil (i : Int) (w : World) : Calls Tryd.prog 36 #[.pointer none, .int .i64 i] w fun r w' => r = .returned (.tuple #[.slice none 0 0, .int .i64 2]) ∧ w' = w := by
  go_enter Tryd.func36, Tryd.ntmps36
  go_wp2_with fail
  go_ret2
  exact ⟨rfl, rfl⟩
end Go.Proofs.YtibbinenhmiclaaDoor

namespace Go.Proofs.YtibbinenhmiclaaDoor
open Go.RowKit

set_option maxRecDepth 100000 in
theorem made_nil (w : World) : Calls Tryd.prog 13 #[.pointer none] w fun r w' => r = .returned (.int .i64 0) ∧ w' = w := by
  go_enter Tryd.func13, Tryd.ntmps13
  go_wp2_with fail
  go_ret
  exact ⟨rfl, rfl⟩
theorem loadMade_any (a : Addr) (x : Int) (w : World) (hc : w.cell? a = some (.int .i64 x)) :
    Calls Tryd.prog 31 #[.pointer (some a)] w fun r w' => r = .returned (.int .i64 x) ∧ w' = w := by
  have hl := run_call_load (P := Tryd.prog) Tryd.func43 (by kernel_rfl) (by kernel_rfl) (by kernel_rfl) .i64 (by kernel_rfl) hc
  go_enter Tryd.func31, Tryd.ntmps31
  go_wp2
  go_ret
  exact ⟨rfl, rfl⟩
theorem made_any (m : SpM) (B S C n : Nat) (f : Nat → Option Value) (g : GS) (mk : Int) (w : World) (ho : SpOk m) (h : SpIs w B S C m n f g mk) :
    Calls Tryd.prog 13 #[.pointer (some ⟨S, 0, none⟩)] w fun r w' => r = .returned (.int .i64 mk) ∧ w' = w := by
  have hc : w.cell? ⟨S, 42, none⟩ = some (.int .i64 mk) := (h.s.cell 42).trans (by rw [List.getElem?_toArray]; exact sp_42 ho.l C n g mk)
  clear h ho
  go_enter Tryd.func13, Tryd.ntmps13
  go_wp2_with fail
  refine (loadMade_any ⟨S, 42, none⟩ mk w hc).mono ?_
  rintro r w1 ⟨rfl, rfl⟩
  go_wp2_with fail
  go_ret
  exact ⟨rfl, rfl⟩
theorem hasSp_any (m : SpM) (B S C n : Nat) (f : Nat → Option Value) (g : GS) (mk : Int) (q : Int) (w : World) (ho : SpOk m) (h : SpIs w B S C m n f g mk) :
    Calls Tryd.prog 34 #[.pointer (some ⟨S, 0, none⟩), .int .i64 q] w fun r w' => r = .returned (.bool (decide (0 ≤ q ∧ q < n))) ∧ w' = w := by
  have hc : w.cell? ⟨S, 37, none⟩ = some (.slice (some ⟨C, 0, none⟩) n n) := (h.s.cell 37).trans (by rw [List.getElem?_toArray]; exact sp_37 ho.l C n g mk)
  clear h ho
  by_cases h0 : 0 ≤ q
  · go_enter Tryd.func34, Tryd.ntmps34
    go_wp2_with fail
    go_ret
    exact ⟨by simp [h0], rfl⟩
  · go_enter Tryd.func34, Tryd.ntmps34
    go_wp2_with fail
    go_ret
    exact ⟨by simp; omega, rfl⟩
set_option maxRecDepth 100000 in
theorem rules_nil (w : World) : Calls Tryd.prog 14 #[.pointer none] w fun r w' => r = .returned (.agg #[.int .i64 0, .int .i64 0, .int .i64 0]) ∧ Below w.heap.size w w' := by
  go_enter Tryd.func14, Tryd.ntmps14
  go_wp2_with fail
  refine bodyPost_ret (v := .agg #[.int .i64 0, .int .i64 0, .int .i64 0]) (results_cell_row rfl _ _ w.heap.size 30 _ (0, 0) _ rfl (Blk.new _ _) Tryd.underlying30 rfl info30s) rfl ⟨rfl, ?_⟩
  exact more (Below.refl _ _) _
set_option maxRecDepth 100000 in
set_option maxHeartbeats 1000000 in
theorem rules_any (m : SpM) (B S C n : Nat) (f : Nat → Option Value) (g : GS) (mk : Int) (w : World) (_ho : SpOk m) (h : SpIs w B S C m n f g mk) :
    Calls Tryd.prog 14 #[.pointer (some ⟨S, 0, none⟩)] w fun r w' => r = .returned (.agg #[.int .i64 m.wd, .int .i64 m.st, .int .i64 m.ht]) ∧ Below w.heap.size w w' := by
  have h0 : w.cell? ⟨S, 0, none⟩ = some (.int .i64 m.wd) := (h.s.cell 0).trans (by rw [List.getElem?_toArray]; rfl)
  have h1 : w.cell? ⟨S, 1, none⟩ = some (.int .i64 m.st) := (h.s.cell 1).trans (by rw [List.getElem?_toArray]; rfl)
  have h2 : w.cell? ⟨S, 2, none⟩ = some (.int .i64 m.ht) := (h.s.cell 2).trans (by rw [List.getElem?_toArray]; rfl)
  have q0 : ∀ o, (w.alloc o).cell? ⟨S, 0, none⟩ = some (.int .i64 m.wd) := fun o => ((h.s.old o).cell 0).trans (by rw [List.getElem?_toArray]; rfl)
  have q1 : ∀ o, (w.alloc o).cell? ⟨S, 1, none⟩ = some (.int .i64 m.st) := fun o => ((h.s.old o).cell 1).trans (by rw [List.getElem?_toArray]; rfl)
  have q2 : ∀ o, (w.alloc o).cell? ⟨S, 2, none⟩ = some (.int .i64 m.ht) := fun o => ((h.s.old o).cell 2).trans (by rw [List.getElem?_toArray]; rfl)
  clear h h0 h1 h2
  go_enter Tryd.func14, Tryd.ntmps14
  go_wp2_with fail
  refine bodyPost_ret (v := .agg #[.int .i64 m.wd, .int .i64 m.st, .int .i64 m.ht]) (results_cell_row rfl _ _ w.heap.size 30 _ (0, 0) _ rfl (Blk.new _ _) Tryd.underlying30 rfl info30s) rfl ⟨rfl, ?_⟩
  exact more (Below.refl _ _) _
end Go.Proofs.YtibbinenhmiclaaDoor

namespace Go.Proofs.YtibbinenhmiclaaDoor
open Go.RowKit

set_option maxRecDepth 100000 in
theorem pathSp_nil (i : Int) (w : World) : Calls Tryd.prog 19 #[.pointer none, .int .i64 i] w fun r w' => r = .returned (.tuple #[.slice none 0 0, .int .i64 2]) ∧ w' = w := by
  go_enter Tryd.func19, Tryd.ntmps19
  go_wp2_with fail
  go_ret2
  exact ⟨rfl, rfl⟩
set_option maxRecDepth 100000 in
set_option maxHeartbeats 1000000 in
theorem rootSp_nil (w : World) : Calls Tryd.prog 17 #[.pointer none] w fun r w' => r = .returned (dgV zeroS) ∧ Below w.heap.size w w' := by
  go_enter Tryd.func17, Tryd.ntmps17
  go_wp2_with fail
  refine bodyPost_ret (v := dgV zeroS) ?_ rfl ⟨rfl, more (Below.refl _ _) _⟩
  exact results_cell_row rfl _ _ w.heap.size 43 (kv .u8 zeroS).toArray (0, 0) _ rfl (Blk.new _ _) Tryd.underlying43 rfl (cells50 (l := zeroS) rfl)
set_option maxRecDepth 100000 in
set_option maxHeartbeats 1000000 in
theorem elementSp_nil (q r : Int) (w : World) : Calls Tryd.prog 18 #[.pointer none, .int .i64 q, .int .i64 r] w fun e w' => e = .returned (.tuple #[dgV zeroS, .int .i64 2]) ∧ Below w.heap.size w w' := by
  go_enter Tryd.func18, Tryd.ntmps18
  go_wp2_with fail
  refine bodyPost_ret (v := .tuple #[dgV zeroS, .int .i64 2]) ?_ rfl ⟨rfl, more (Below.refl _ _) _⟩
  exact results_row_tmp rfl _ _ w.heap.size 43 (kv .u8 zeroS).toArray (0, 0) _ (.int .i64 2) rfl rfl (Blk.new _ _) Tryd.underlying43 rfl (cells50 (l := zeroS) rfl)
set_option maxRecDepth 100000 in
set_option maxHeartbeats 4000000 in
theorem element_bad (m : SpM) (B S C n : Nat) (f : Nat → Option Value) (g : GS) (mk : Int) (q r : Int) (w : World) (ho : SpOk m) (h : SpIs w B S C m n f g mk) (hb : ¬ ((0 ≤ q ∧ q < n) ∧ 0 ≤ r ∧ r ≤ m.st)) :
    Calls Tryd.prog 18 #[.pointer (some ⟨S, 0, none⟩), .int .i64 q, .int .i64 r] w fun e w' => e = .returned (.tuple #[dgV zeroS, .int .i64 1]) ∧ Below w.heap.size w w' := by
  obtain ⟨A, hA⟩ : ∃ A, A = w.heap.size := ⟨_, rfl⟩
  have HA := Kp.mk hA
  have H0 : Kp (Row (w.alloc z50) A 43 .u8 zeroS ∧ SpIs (w.alloc z50) B S C m n f g mk ∧ Below A w (w.alloc z50)) := ⟨Blk.newAt _ hA, h.keep (more (Below.refl _ _) _), by rw [hA]; exact more (Below.refl _ _) _⟩
  have HB := Kp.mk hb
  have HO := Kp.mk ho
  clear h hb ho
  go_enter Tryd.func18, Tryd.ntmps18
  go_wp2_with fail
  rw [← hA]
  clear hA
  refine calls_world (fun W => Row W A 43 .u8 zeroS ∧ SpIs W B S C m n f g mk ∧ Below A w W) H0.out ?_
  rintro w1 ⟨h1, h2, h3⟩
  have HR := Kp.mk h1
  have H1 := Kp.mk h2
  have HBl := Kp.mk h3
  clear h1 h2 h3 H0
  refine (hasSp_any m B S C n f g mk q _ HO.out H1.out).mono ?_
  rintro e w2 ⟨rfl, rfl⟩
  have q1 : w2.cell? ⟨S, 1, none⟩ = some (.int .i64 m.st) := (H1.out.s.cell 1).trans (by rw [List.getElem?_toArray]; rfl)
  have HF := Kp.mk (HR.out.setRow zeroS)
  have HBf := Kp.mk (Below.row HBl.out (g := A) (Nat.le_refl _) (kv .u8 zeroS).toArray)
  have hx : (0 ≤ q ∧ q < n) → (decide (r < 0) || decide (m.st < r)) = true := fun hq => by have := HB.out; simp; omega
  by_cases hq : 0 ≤ q ∧ q < n
  · have hx1 := hx hq
    rw [decide_eq_true hq]
    clear hx hq
    go_wp2_with (refine wpList_store_row rfl 43 (.tmp 6) (.tmp 28) rfl A (kv .u8 zeroS).toArray rfl rfl 43 _ HR.out (cells50 (l := zeroS) rfl) rfl (kv_all _ _) ?_)
    all_goals refine bodyPost_ret (v := .tuple #[dgV zeroS, .int .i64 1]) ?_ rfl ⟨rfl, by rw [← HA.out]; exact HBf.out⟩
    all_goals exact results_row_tmp rfl _ _ A 43 (kv .u8 zeroS).toArray (0, 0) _ (.int .i64 1) rfl rfl HF.out Tryd.underlying43 rfl (cells50 (l := zeroS) rfl)
  · rw [decide_eq_false hq]
    clear hx hq
    go_wp2_with (refine wpList_store_row rfl 43 (.tmp 6) (.tmp 28) rfl A (kv .u8 zeroS).toArray rfl rfl 43 _ HR.out (cells50 (l := zeroS) rfl) rfl (kv_all _ _) ?_)
    refine bodyPost_ret (v := .tuple #[dgV zeroS, .int .i64 1]) ?_ rfl ⟨rfl, by rw [← HA.out]; exact HBf.out⟩
    exact results_row_tmp rfl _ _ A 43 (kv .u8 zeroS).toArray (0, 0) _ (.int .i64 1) rfl rfl HF.out Tryd.underlying43 rfl (cells50 (l := zeroS) rfl)
end Go.Proofs.YtibbinenhmiclaaDoor

namespace Go.Proofs.YtibbinenhmiclaaDoor
open Go.RowKit

/-- The six bytes of a node's place, the text of what stands above two. -/
def atL (d e v : Int) : List Int := [d % 256] ++ be32 e ++ [v % 256]
def aboveT (d e v : Int) (x y : List Int) : List Int := 71 :: (atL d e v ++ x ++ y)
theorem aboveT_flat (d e v : Int) (x y : List Int) : 71 :: [atL d e v, x, y].flatten = aboveT d e v x y := by simp [aboveT]
theorem atL_bytes (d e v : Int) : Bytes (atL d e v) := by
  unfold atL
  refine (Bytes.append ?_ (be32_bytes e)).append ?_
  · intro x hx; simp at hx; omega
  · intro x hx; simp at hx; omega
set_option maxRecDepth 100000 in
theorem slice143_all (b : Nat) (w : World) : (Instr.sliceAt 138 (.pointer (some ⟨b, 0, none⟩)) none none none).run Tryd.prog w = .ok (.slice (some ⟨b, 0, none⟩) 6 6) w := by
  have hl : Tryd.prog.arrayLen 138 = 6 := by kernel_rfl
  have he : Tryd.prog.elem 138 = 5 := by kernel_rfl
  rw [run_sliceAt_array_all (ht := Tryd.underlying138), hl, he, size5]
  rfl
set_option maxRecDepth 100000 in
set_option maxHeartbeats 1000000 in
theorem above_any (d e v : Int) (x y : List Int) (w : World) (hk : KonIs w) (he : 0 ≤ e ∧ e < 4294967296) (hx : x.length = 16) (hxb : Bytes x) (hy : y.length = 16) (hyb : Bytes y) :
    Calls Tryd.prog 66 #[.int .i64 d, .int .u32 e, .int .i64 v, dgV x, dgV y] w fun q w' => q = .returned (dgV (shortL (aboveT d e v x y))) ∧ Below w.heap.size w w' := by
  have HK := Kp.mk hk
  have e0 := he.1
  have e1 := he.2
  have HX := Kp.mk hx
  have HXB := Kp.mk hxb
  have HY := Kp.mk hy
  have HYB := Kp.mk hyb
  clear hk he hx hxb hy hyb
  go_enter Tryd.func66, Tryd.ntmps66
  go_wp2_with fail
  obtain ⟨A, hA⟩ : ∃ A, A = w.heap.size := ⟨_, rfl⟩
  have HA := Kp.mk hA
  rw [← hA]
  refine wp_world (fun W => Row W A 43 .u8 x ∧ Row W (A + 1) 43 .u8 y ∧ Row W (A + 2) 43 .u8 (fill 16 []) ∧ Row W (A + 3) 138 .u8 (atL d e v) ∧ Below A w W) ⟨?_, ?_, ?_, ?_, ?_⟩ ?_
  · exact Blk.old (Blk.old (Blk.old (Blk.newAt _ hA) _) _) _
  · exact Blk.old (Blk.old (Blk.newAt _ (by simp [hA])) _) _
  · exact Blk.old (Blk.newAt _ (by simp [hA])) _
  · have e4 : e / 16777216 = e / 16777216 % 256 := by omega
    rw [e4]
    exact Blk.newAt _ (by simp [hA])
  · rw [hA]; exact more (more (more (more (Below.refl _ _) _) _) _) _
  rw [show A + 1 + 1 = A + 2 from rfl, show A + 2 + 1 = A + 3 from rfl]
  clear hA e0 e1
  rintro W ⟨h1, h2, h3, h4, h5⟩
  refine wp_region_pred (fun w' => Row w' A 43 .u8 x ∧ Row w' (A + 1) 43 .u8 y ∧ Row w' (A + 2) 43 .u8 (fill 16 []) ∧ Row w' (A + 3) 138 .u8 (atL d e v) ∧ Below A w w') [0, 1, 2, 3, 4] [5]
    (fun i w' q => match i with
      | 0 => q = .slice (some ⟨A + 3, 0, none⟩) 6 6
      | 1 => q = .slice (some ⟨A, 0, none⟩) 16 16
      | 2 => q = .slice (some ⟨A + 1, 0, none⟩) 16 16
      | 3 => HoldsP w' q [atL d e v, x, y]
      | _ => q = dgV (shortL (aboveT d e v x y)))
    [[], [], [], [(0, some 28), (1, some 29), (2, some 30)], [(3, some 31)]] [(0, some 28), (1, some 29), (2, some 30), (3, some 31), (4, some 32)]
    (by kernel_rfl) (by kernel_rfl) (by kernel_rfl) (by kernel_rfl) (by kernel_rfl) (by kernel_rfl) (by decide) (by decide) (fun w1 w2 h hb => ⟨h.1.keep hb, h.2.1.keep hb, h.2.2.1.keep hb, h.2.2.2.1.keep hb, h.2.2.2.2.trans (hb.mono (Nat.le_of_lt h.1.lt))⟩) ?_ ⟨h1.drew, h2.drew, h3.drew, h4.drew, h5.drew⟩ ?_ ?_
  · intro i w1 w2 q h hb
    match i, h with
    | 0, h => exact h
    | 1, h => exact h
    | 2, h => exact h
    | 3, h => exact HoldsP.keep h hb
    | _ + 4, h => exact h
  · refine ⟨fun γ wx hS h => ⟨_, rfl, Or.inl ⟨rfl, ?_⟩⟩, fun γ wx hS h => ⟨_, rfl, Or.inl ⟨rfl, ?_⟩⟩, fun γ wx hS h => ⟨_, rfl, Or.inl ⟨rfl, ?_⟩⟩, fun γ wx hS h => ⟨_, rfl, Or.inl ⟨rfl, ?_⟩⟩, fun γ wx hS h => ⟨_, rfl, Or.inl ⟨rfl, ?_⟩⟩, trivial⟩
    · exact predRun_value (v := .slice (some ⟨A + 3, 0, none⟩) 6 6) (by simp only [putE]; have hs := slice143_all; go_simp) rfl
    · exact predRun_value (v := .slice (some ⟨A, 0, none⟩) 16 16) (by simp only [putE]; have hs := slice50_all; go_simp) rfl
    · exact predRun_value (v := .slice (some ⟨A + 1, 0, none⟩) 16 16) (by simp only [putE]; have hs := slice50_all; go_simp) rfl
    · obtain ⟨h2, h3, h4⟩ := h
      have h2' : γ 0 = .slice (some ⟨A + 3, 0, none⟩) 6 6 := h2
      have h3' : γ 1 = .slice (some ⟨A, 0, none⟩) 16 16 := h3
      have h4' : γ 2 = .slice (some ⟨A + 1, 0, none⟩) 16 16 := h4
      refine predRun_new (w' := wx.alloc (.cells #[.slice (some ⟨A + 3, 0, none⟩) 6 6, .slice (some ⟨A, 0, none⟩) 16 16, .slice (some ⟨A + 1, 0, none⟩) 16 16] 131)) (v := .slice (some ⟨wx.heap.size, 0, none⟩) 3 3) (by simp only [putE, h2', h3', h4']; go_simp) (more (Below.refl _ _) _) ?_
      have h6 : HoldsB wx wx.heap.size (.slice (some ⟨A + 3, 0, none⟩) 6 6) (atL d e v) := HoldsB.ofBytes hS.2.2.2.1 (atL_bytes d e v) (by show 6 ≤ maxLen; decide)
      exact holdsP_three h6 (hold16 hS.1 HX.out HXB.out) (hold16 hS.2.1 HY.out HYB.out)
    · have h5' : HoldsP wx (γ 3) [atL d e v, x, y] := h
      obtain ⟨a, n, c, e5, _⟩ := h5'.slice
      rw [e5] at h5'
      refine predRun_call (f := 76) (args := #[.int .u8 71, γ 3]) (by simp only [putE]; go_simp) ?_
      rw [e5]
      refine (short_any 71 a n c _ wx (HK.out.keep (by rw [← HA.out]; exact hS.2.2.2.2)) (by omega) h5' (by simp [atL, be32_len, HX.out, HY.out])).mono ?_
      rintro q w2 ⟨rfl, hb⟩
      exact ⟨_, rfl, congrArg (fun t => dgV (shortL t)) (aboveT_flat d e v x y), hb⟩
  · intro γ w9 hS h
    have h6 : γ 4 = dgV (shortL (aboveT d e v x y)) := h.2.2.2.2
    obtain ⟨z, hz⟩ : ∃ z, z = shortL (aboveT d e v x y) := ⟨_, rfl⟩
    have HD := Kp.mk (shortL_len (aboveT d e v x y))
    rw [← hz] at h6 HD
    have HC := Kp.mk (cells50 HD.out)
    have HZ := Kp.mk (size50 HD.out)
    have HF := Kp.mk (hS.2.2.1.setRow z)
    have HBf := Kp.mk (Below.row hS.2.2.2.2 (g := A + 2) (by omega) (kv .u8 z).toArray)
    simp only [putE, Act.put, List.setIfInBounds_toArray, List.set_cons_zero, List.set_cons_succ]
    rw [h6]
    refine wpOps_step rfl rfl ?_
    refine wp_store_row 43 (.tmp 10) (.tmp 32) rfl (A + 2) (kv .u8 z).toArray rfl rfl 43 _ hS.2.2.1 HC.out HZ.out (kv_all _ _) ?_
    refine wpOps_done ?_
    have HK9 := Kp.mk hz
    clear h hS h6 hz
    go_wp2_with fail
    refine bodyPost_ret (v := dgV z) ?_ rfl ⟨by rw [HK9.out], by rw [← HA.out]; exact HBf.out⟩
    exact results_cell_row rfl _ _ (A + 2) 43 _ (0, 0) _ rfl HF.out Tryd.underlying43 rfl HC.out
end Go.Proofs.YtibbinenhmiclaaDoor

namespace Go.Proofs.YtibbinenhmiclaaDoor
open Go.RowKit

/-- What a leaf and the sums beside its way lead to. -/
def foldL (d e : Int) (x : List Int) (j : Nat) (p : List Int) : Nat → List Int
  | 0 => x
  | l + 1 => if j / 2 ^ l % 2 = 1 then shortL (aboveT d e (l + 1) (segL p l) (foldL d e x j p l)) else shortL (aboveT d e (l + 1) (foldL d e x j p l) (segL p l))
theorem foldL_len (d e : Int) (x : List Int) (j : Nat) (p : List Int) (hx : x.length = 16) : ∀ l, (foldL d e x j p l).length = 16
  | 0 => hx
  | l + 1 => by
    rw [foldL]
    split <;> exact shortL_len _
theorem foldL_bytes (d e : Int) (x : List Int) (j : Nat) (p : List Int) (hx : Bytes x) : ∀ l, Bytes (foldL d e x j p l)
  | 0 => hx
  | l + 1 => by
    rw [foldL]
    split <;> exact shortL_bytes _
def foldOk (i : Int) (n : Nat) : Bool := decide (0 ≤ i) && decide (n ≤ 6) && decide (i < 2 ^ n)
def foldS (d e : Int) (x : List Int) (i : Int) (p : List Int) (n : Nat) : List Int := if foldOk i n then foldL d e x i.toNat p n else fill 16 []
def foldF (i : Int) (n : Nat) : Int := if foldOk i n then 0 else 1
theorem foldS_len (d e : Int) (x : List Int) (i : Int) (p : List Int) (n : Nat) (hx : x.length = 16) : (foldS d e x i p n).length = 16 := by
  unfold foldS
  split
  · exact foldL_len _ _ _ _ _ hx _
  · rfl
theorem foldS_bytes (d e : Int) (x : List Int) (i : Int) (p : List Int) (n : Nat) (hx : Bytes x) : Bytes (foldS d e x i p n) := by
  unfold foldS
  split
  · exact foldL_bytes _ _ _ _ _ hx _
  · exact fill_bytes (fun x hx => by simp at hx)
theorem shl_one {n : Nat} (h : n ≤ 6) : IntKind.i64.wrap (2 ^ n : Int) = 2 ^ n := by
  have h2 : n = 0 ∨ n = 1 ∨ n = 2 ∨ n = 3 ∨ n = 4 ∨ n = 5 ∨ n = 6 := by omega
  rcases h2 with rfl | rfl | rfl | rfl | rfl | rfl | rfl <;> decide
theorem ex_world {Q : Exit → Act → World → Prop} {x : Exit} {a : Act} {w : World} (F : World → Prop) (hF : F w) (h : ∀ w2, F w2 → Q x a w2) : Q x a w := h w hF
end Go.Proofs.YtibbinenhmiclaaDoor

namespace Go.Proofs.YtibbinenhmiclaaDoor
open Go.RowKit

theorem info33' : (Tryd.prog.info? 43).map (fun i => (i.zero, i.size, i.bytes)) = some (some (.agg (kv .u8 (fill 16 [])).toArray), 16, 16) := by kernel_rfl
set_option maxRecDepth 100000 in
set_option maxHeartbeats 1000000 in
theorem clone_one (B : Nat) (s : List Int) (w : World) (h : Row w B 43 .u8 s) (hs : s.length = 16) :
    Calls Tryd.prog 55 #[.slice (some ⟨B, 0, none⟩) 1 1] w fun r w' => ∃ L c, r = .returned (.slice (some ⟨L, 0, none⟩) 1 c) ∧ w'.ownsRow w.heap.size 43 16 (.slice (some ⟨L, 0, none⟩) 1 c) 1 (kv .u8 s) ∧ Below w.heap.size w w' := by
  obtain ⟨i0, hi, hz0, hz1, hz2⟩ := info_parts info33'
  have HR := Kp.mk h
  have HS := Kp.mk hs
  have hcell : ∀ j u, (kv .u8 s)[j]? = some u → (w.alloc (.cells #[] 43)).cell? ((⟨B, 0, none⟩ : Addr).add j) = some u := by
    intro j u hu
    have h2 := Blk.cell (h.alloc (.cells #[] 43)) j
    rw [List.getElem?_toArray, hu] at h2
    have e : (⟨B, 0, none⟩ : Addr).add j = ⟨B, j, none⟩ := by unfold Addr.add; split <;> simp_all
    rw [e]
    exact h2
  have HC := Kp.mk hcell
  clear hcell h hs
  have hql : ∀ w, (binOp .eql 50 (.slice (some ⟨B, 0, none⟩) 1 1) (.slice none 0 0)).run Tryd.prog w = .ok (.bool false) w := fun w => rfl
  go_enter Tryd.func55, Tryd.ntmps55
  go_wp2_with (at_builtin; refine wpList_append_own _ rfl _ _ 50 rfl w.heap.size 43 i0 _ 16 16 Tryd.underlying50 hi hz0 hz1 hz2 rfl (by decide) _ 0 [] rfl (World.ownsRow_made w #[] 0 (Nat.le_refl _) (by unfold maxLen; omega) rfl) ⟨B, 0, none⟩ 1 1 (kv .u8 s) rfl ?c0 HC.out (kv_one _) ?c1 ?c2 ?c3 ?_)
  case c0 => rw [List.length_map, HS.out]
  case c1 => unfold maxLen; omega
  case c2 => omega
  case c3 => simp
  intro v' w' ho hg hn
  have hbel : Below w.heap.size w w' := below_row_grown (more (Below.refl _ _) (.cells #[] 43)) (by simp) (World.ownsRow_made (e := 43) (size := 16) w #[] 0 (Nat.le_refl _) (by unfold maxLen; omega) rfl) hg
  rcases ho.2 with ⟨_, h0⟩ | ⟨L, c, cur, rfl, _⟩
  · omega
  have HO := Kp.mk ho
  have HB := Kp.mk hbel
  clear ho hg hn hbel
  go_wp2_with fail
  go_ret
  exact ⟨L, c, rfl, HO.out, HB.out⟩
/-- The tree over one leaf. -/
structure One (w : World) (G R L c : Nat) (s : List Int) : Prop where
  g : Blk w G (.cells #[.slice (some ⟨R, 0, none⟩) 1 1] 108)
  r : Blk w R (.cells #[.slice (some ⟨L, 0, none⟩) 1 c] 50)
  l : w.rangeAt L 0 (kv .u8 s)
  lt : L < w.heap.size
theorem One.keep {w w' : World} {G R L c : Nat} {s : List Int} (h : One w G R L c s) (hb : Below w.heap.size w w') : One w' G R L c s :=
  ⟨h.g.keep hb, h.r.keep hb, fun j v hj => (hb.cell (p := ⟨L, 0 + j, none⟩) h.lt).trans (h.l j v hj), Nat.lt_of_lt_of_le h.lt hb.size⟩
set_option maxRecDepth 100000 in
set_option maxHeartbeats 1000000 in
theorem new_one (d e : Int) (B : Nat) (s : List Int) (w : World) (h : Row w B 43 .u8 s) (hs : s.length = 16) :
    Calls Tryd.prog 46 #[.int .i64 d, .int .u32 e, .slice (some ⟨B, 0, none⟩) 1 1] w fun r w' => ∃ G R L c, r = .returned (.tuple #[.pointer (some ⟨G, 0, none⟩), .int .i64 0]) ∧ One w' G R L c s ∧ Below w.heap.size w w' := by
  have HR := Kp.mk h
  have HS := Kp.mk hs
  clear h hs
  go_enter Tryd.func46, Tryd.ntmps46
  go_wp2_with fail
  refine (height_any 1 w).mono ?_
  rintro r w1 ⟨hh, rfl, rfl, h2⟩
  have h0 : hh = 0 := by
    rcases h2 with ⟨i, hi, e1, e2⟩ | ⟨hn, _⟩
    · match i, hi with
      | 0, _ => simpa using e2
      | i + 1, _ =>
        exfalso
        have : (2 : Int) ^ (i + 1) = 2 * 2 ^ i := by rw [Int.pow_succ, Int.mul_comm]
        omega
    · exact absurd rfl (hn 0 (by omega))
  subst h0
  clear h2
  go_wp2_with fail
  refine (clone_one B s w1 HR.out HS.out).mono ?_
  rintro r w2 ⟨L, c, rfl, ho, hb⟩
  have HL : Kp (w2.rangeAt L 0 (kv .u8 s) ∧ L < w2.heap.size) := ⟨by
    rcases ho.2 with ⟨e, _⟩ | ⟨g, cap, cur, e, _, hg, _, _, _, ht⟩
    · simp at e
    · simp only [Value.slice.injEq, Option.some.injEq, Addr.mk.injEq, and_true] at e
      obtain ⟨rfl, _⟩ := e
      refine ⟨fun j v hj => ?_, (Array.getElem?_eq_some_iff.1 hg).1⟩
      rw [cell_of_row w2 L (0 + j) cur 43 (0, 0) hg, Nat.zero_add, ← Array.getElem?_toList]
      rw [← ht, List.getElem?_take] at hj
      split at hj
      · exact hj
      · cases hj⟩
  have HB := Kp.mk hb
  clear ho hb
  go_wp2_with fail
  refine wp_world (fun W => One W (w2.heap.size + 1) w2.heap.size L c s ∧ Below w1.heap.size w1 W) ⟨⟨Blk.newAt _ (by simp), Blk.old (Blk.newAt _ rfl) _, ?_, by have := HL.out.2; simp; omega⟩, more (more HB.out _) _⟩ ?_
  · intro j v hj
    have h1 := HL.out.1 j v hj
    have hb2 : Below w2.heap.size w2 ((w2.alloc (.cells #[.slice (some ⟨L, 0, none⟩) 1 c] 50)).alloc (.cells #[.slice (some ⟨w2.heap.size, 0, none⟩) 1 1] 108)) := more (more (Below.refl _ _) _) _
    exact (hb2.cell (p := ⟨L, 0 + j, none⟩) HL.out.2).trans h1
  rintro W ⟨h1, h2⟩
  have HO := Kp.mk h1
  have HW := Kp.mk h2
  clear h1 h2
  obtain ⟨G, hG⟩ : ∃ G, G = w2.heap.size + 1 := ⟨_, rfl⟩
  obtain ⟨R, hR⟩ : ∃ R, R = w2.heap.size := ⟨_, rfl⟩
  rw [← hG, ← hR] at HO
  rw [← hG]
  clear hG hR HB HL
  go_loopw [22] (fun q wr => q = .int .i64 0 ∧ Kp (One wr G R L c s) ∧ Kp (Below w1.heap.size w1 wr)) (fun _ _ => 0)
  case atStart => exact ⟨rfl, HO, HW⟩
  case round =>
    obtain ⟨rfl, F1, F2⟩ := hrel
    go_wp2_with fail
    go_ret2
    exact ⟨G, R, L, c, rfl, F1.out, F2.out⟩
end Go.Proofs.YtibbinenhmiclaaDoor

namespace Go.Proofs.YtibbinenhmiclaaDoor
open Go.RowKit

theorem One.cells {w : World} {G R L c : Nat} {s : List Int} (h : One w G R L c s) : w.cell? ⟨G, 0, none⟩ = some (.slice (some ⟨R, 0, none⟩) 1 1) ∧ w.cell? ⟨R, 0, none⟩ = some (.slice (some ⟨L, 0, none⟩) 1 c) :=
  ⟨h.g.cell 0, h.r.cell 0⟩
set_option maxRecDepth 100000 in
set_option maxHeartbeats 1000000 in
theorem has_one (G R L c : Nat) (s : List Int) (w : World) (h : One w G R L c s) : Calls Tryd.prog 47 #[.pointer (some ⟨G, 0, none⟩), .int .i64 0] w fun r w' => r = .returned (.bool true) ∧ w' = w := by
  obtain ⟨c1, c2⟩ := h.cells
  clear h
  go_enter Tryd.func47, Tryd.ntmps47
  go_wp2_with fail
  go_ret
  exact ⟨rfl, rfl⟩
set_option maxRecDepth 100000 in
set_option maxHeartbeats 1000000 in
theorem path_one (G R L c : Nat) (s : List Int) (w : World) (h : One w G R L c s) : Calls Tryd.prog 36 #[.pointer (some ⟨G, 0, none⟩), .int .i64 0] w fun r w' => r = .returned (.tuple #[.slice none 0 0, .int .i64 0]) ∧ Below w.heap.size w w' := by
  have HO := Kp.mk h
  clear h
  go_enter Tryd.func36, Tryd.ntmps36
  go_wp2_with fail
  refine (has_one G R L c s w HO.out).mono ?_
  rintro r w1 ⟨rfl, rfl⟩
  obtain ⟨c1, c2⟩ := HO.out.cells
  go_wp2_with fail
  go_quiet (fail)
  have HB : Kp (Below w1.heap.size w1 (w1.drewN nq)) := ⟨below_drewN (Below.refl _ _) nq⟩
  clear c1 c2
  generalize w1.drewN nq = w2 at *
  go_wp2_with fail
  go_loopw [1, 6, 27] (fun _ p q wr => q = .int .i64 0 ∧ p = .slice none 0 0 ∧ Kp (Below w1.heap.size w1 wr)) (fun _ _ _ _ => 0)
  case atStart => exact ⟨rfl, rfl, HB⟩
  case round =>
    obtain ⟨rfl, rfl, F2⟩ := hrel
    go_wp2_with fail
    go_ret2
    exact ⟨rfl, F2.out⟩
theorem exec_load_mid33 {o : Oper} {a : Act} {w : World} {x : Operand} {b : Nat} {s : List Int} (ho : o.op = .load 43 x) (hx : a.eval x = .pointer (some ⟨b, 0, none⟩)) (hc : w.rangeAt b 0 (kv .u8 s)) (hs : s.length = 16) :
    (execOp a.eval o).run Tryd.prog w = .ok (.value (dgV s)) w := by
  unfold execOp
  simp only [ho, hx, Instr.loadAt, Instr.sureAddr, Sem.run_bind, Sem.run_pure, Result.andThen_ok, run_loadVar_mid w b 0 43 (kv .u8 s) _ hc Tryd.underlying43 rfl (by rw [info33, List.length_map, hs])]
set_option maxRecDepth 100000 in
set_option maxHeartbeats 1000000 in
theorem root_one (G R L c : Nat) (s : List Int) (w : World) (h : One w G R L c s) (hs : s.length = 16) : Calls Tryd.prog 33 #[.pointer (some ⟨G, 0, none⟩)] w fun r w' => r = .returned (dgV s) ∧ Below w.heap.size w w' := by
  have HO := Kp.mk h
  have HS := Kp.mk hs
  clear h hs
  go_enter Tryd.func33, Tryd.ntmps33
  go_wp2_with fail
  refine calls_world (fun W => Row W w.heap.size 43 .u8 (fill 16 []) ∧ One W G R L c s ∧ Below w.heap.size w W) ⟨Blk.newAt (w := w) z50 rfl, HO.out.keep (more (Below.refl _ _) z50), more (Below.refl _ _) z50⟩ ?_
  rintro w1 ⟨h1, h2, h3⟩
  refine (has_one G R L c s w1 h2).mono ?_
  rintro r w2 ⟨rfl, rfl⟩
  have G1 := Kp.mk h1
  have G2 := Kp.mk h2
  have G3 := Kp.mk h3
  clear h1 h2 h3
  go_wp2_with fail
  refine wp_region_pred (fun w' => Row w' w.heap.size 43 .u8 (fill 16 []) ∧ One w' G R L c s ∧ Below w.heap.size w w') [0, 1, 2, 3, 4, 5, 6, 7, 8, 9, 10, 11, 12, 13] [14]
    (fun i _ v => match i with
      | 0 => v = .pointer (some ⟨G, 0, none⟩)
      | 1 => v = .pointer (some ⟨G, 0, none⟩)
      | 2 => v = .pointer (some ⟨G, 0, none⟩)
      | 3 => v = .slice (some ⟨R, 0, none⟩) 1 1
      | 4 => v = .pointer (some ⟨G, 0, none⟩)
      | 5 => v = .pointer (some ⟨G, 0, none⟩)
      | 6 => v = .pointer (some ⟨G, 0, none⟩)
      | 7 => v = .slice (some ⟨R, 0, none⟩) 1 1
      | 8 => v = .int .i64 1
      | 9 => v = .int .i64 0
      | 10 => v = .pointer (some ⟨R, 0, none⟩)
      | 11 => v = .slice (some ⟨L, 0, none⟩) 1 c
      | 12 => v = .pointer (some ⟨L, 0, none⟩)
      | _ => v = dgV s)
    [[], [(0, some 7)], [(1, some 8)], [(2, some 9)], [], [(4, some 11)], [(5, some 12)], [(6, some 13)], [(7, some 14)], [(8, some 15)], [(3, some 10), (9, some 16)], [(10, some 17)], [(11, some 18)], [(12, some 19)]]
    [(0, some 7), (1, some 8), (2, some 9), (3, some 10), (4, some 11), (5, some 12), (6, some 13), (7, some 14), (8, some 15), (9, some 16), (10, some 17), (11, some 18), (12, some 19), (13, some 20)]
    (by kernel_rfl) (by kernel_rfl) (by kernel_rfl) (by kernel_rfl) (by kernel_rfl) (by kernel_rfl) (by decide) (by decide) (fun w1 w2 h hb => ⟨h.1.keep hb, h.2.1.keep hb, h.2.2.trans (hb.mono (Nat.le_of_lt h.1.lt))⟩) (fun _ _ _ _ h _ => h) ⟨G1.out.drew, G2.out.keep ⟨rfl, rfl, rfl, Nat.le_refl _, fun _ _ => rfl⟩, G3.out.drew⟩ ?_ ?_
  · refine ⟨fun γ wx hS h => ⟨_, rfl, Or.inl ⟨rfl, ?_⟩⟩, fun γ wx hS h => ⟨_, rfl, Or.inl ⟨rfl, ?_⟩⟩, fun γ wx hS h => ⟨_, rfl, Or.inl ⟨rfl, ?_⟩⟩, fun γ wx hS h => ⟨_, rfl, Or.inl ⟨rfl, ?_⟩⟩, fun γ wx hS h => ⟨_, rfl, Or.inl ⟨rfl, ?_⟩⟩, fun γ wx hS h => ⟨_, rfl, Or.inl ⟨rfl, ?_⟩⟩, fun γ wx hS h => ⟨_, rfl, Or.inl ⟨rfl, ?_⟩⟩, fun γ wx hS h => ⟨_, rfl, Or.inl ⟨rfl, ?_⟩⟩, fun γ wx hS h => ⟨_, rfl, Or.inl ⟨rfl, ?_⟩⟩, fun γ wx hS h => ⟨_, rfl, Or.inl ⟨rfl, ?_⟩⟩, fun γ wx hS h => ⟨_, rfl, Or.inl ⟨rfl, ?_⟩⟩, fun γ wx hS h => ⟨_, rfl, Or.inl ⟨rfl, ?_⟩⟩, fun γ wx hS h => ⟨_, rfl, Or.inl ⟨rfl, ?_⟩⟩, fun γ wx hS h => ⟨_, rfl, Or.inl ⟨rfl, ?_⟩⟩, trivial⟩
    · exact predRun_value (v := .pointer (some ⟨G, 0, none⟩)) (by simp only [putE]; first | rfl | (go_simp; done) | (go_simp; rfl)) rfl
    · have e0 : γ 0 = .pointer (some ⟨G, 0, none⟩) := h
      exact predRun_value (v := .pointer (some ⟨G, 0, none⟩)) (by simp only [putE, e0]; first | rfl | (go_simp; done) | (go_simp; rfl)) rfl
    · have e1 : γ 1 = .pointer (some ⟨G, 0, none⟩) := h
      exact predRun_value (v := .pointer (some ⟨G, 0, none⟩)) (by simp only [putE, e1]; first | rfl | (go_simp; done) | (go_simp; rfl)) rfl
    · have e2 : γ 2 = .pointer (some ⟨G, 0, none⟩) := h
      obtain ⟨c1, c2⟩ := hS.2.1.cells
      exact predRun_value (v := .slice (some ⟨R, 0, none⟩) 1 1) (by simp only [putE, e2]; first | rfl | (go_simp; done) | (go_simp; rfl)) rfl
    · exact predRun_value (v := .pointer (some ⟨G, 0, none⟩)) (by simp only [putE]; first | rfl | (go_simp; done) | (go_simp; rfl)) rfl
    · have e4 : γ 4 = .pointer (some ⟨G, 0, none⟩) := h
      exact predRun_value (v := .pointer (some ⟨G, 0, none⟩)) (by simp only [putE, e4]; first | rfl | (go_simp; done) | (go_simp; rfl)) rfl
    · have e5 : γ 5 = .pointer (some ⟨G, 0, none⟩) := h
      exact predRun_value (v := .pointer (some ⟨G, 0, none⟩)) (by simp only [putE, e5]; first | rfl | (go_simp; done) | (go_simp; rfl)) rfl
    · have e6 : γ 6 = .pointer (some ⟨G, 0, none⟩) := h
      obtain ⟨c1, c2⟩ := hS.2.1.cells
      exact predRun_value (v := .slice (some ⟨R, 0, none⟩) 1 1) (by simp only [putE, e6]; first | rfl | (go_simp; done) | (go_simp; rfl)) rfl
    · have e7 : γ 7 = .slice (some ⟨R, 0, none⟩) 1 1 := h
      exact predRun_value (v := .int .i64 1) (by simp only [putE, e7]; first | rfl | (go_simp; done) | (go_simp; rfl)) rfl
    · have e8 : γ 8 = .int .i64 1 := h
      exact predRun_value (v := .int .i64 0) (by simp only [putE, e8]; first | rfl | (go_simp; done) | (go_simp; rfl)) rfl
    · obtain ⟨h3, h9⟩ := h
      have e3 : γ 3 = .slice (some ⟨R, 0, none⟩) 1 1 := h3
      have e9 : γ 9 = .int .i64 0 := h9
      exact predRun_value (v := .pointer (some ⟨R, 0, none⟩)) (by simp only [putE, e3, e9]; first | rfl | (go_simp; done) | (go_simp; rfl)) rfl
    · have e10 : γ 10 = .pointer (some ⟨R, 0, none⟩) := h
      obtain ⟨c1, c2⟩ := hS.2.1.cells
      exact predRun_value (v := .slice (some ⟨L, 0, none⟩) 1 c) (by simp only [putE, e10]; first | rfl | (go_simp; done) | (go_simp; rfl)) rfl
    · have e11 : γ 11 = .slice (some ⟨L, 0, none⟩) 1 c := h
      exact predRun_value (v := .pointer (some ⟨L, 0, none⟩)) (by simp only [putE, e11]; first | rfl | (go_simp; done) | (go_simp; rfl)) rfl
    · have e12 : γ 12 = .pointer (some ⟨L, 0, none⟩) := h
      exact predRun_value (exec_load_mid33 (x := .tmp 19) rfl (by exact e12) hS.2.1.l HS.out) rfl
  · intro γ w9 hS h
    have e13 : γ 13 = dgV s := h.2.2.2.2.2.2.2.2.2.2.2.2.2
    have HC := Kp.mk (cells50 HS.out)
    have HZ := Kp.mk (size50 HS.out)
    have HF := Kp.mk (hS.1.setRow s)
    have HBf := Kp.mk (Below.row hS.2.2 (g := w.heap.size) (Nat.le_refl _) (kv .u8 s).toArray)
    simp only [putE, Act.put, List.setIfInBounds_toArray, List.set_cons_zero, List.set_cons_succ]
    rw [e13]
    refine wpOps_step rfl rfl ?_
    refine wp_store_row 43 (.tmp 2) (.tmp 20) rfl w.heap.size (kv .u8 s).toArray rfl rfl 43 _ hS.1 HC.out HZ.out (kv_all _ _) ?_
    refine wpOps_done ?_
    clear h hS e13
    go_wp2_with fail
    refine bodyPost_ret (v := dgV s) ?_ rfl ⟨rfl, HBf.out⟩
    exact results_cell_row rfl _ _ w.heap.size 43 _ (0, 0) _ rfl HF.out Tryd.underlying43 rfl HC.out
/-- Two results: an array in a cell, and a slot. -/
theorem results_row_slot {P : Program} {fn : Func} {p q : Tmp} {ty : TypeId} (h : fn.results = #[.cell p ty, .tmp q]) (tmps : Array Value) (w : World) (g : Nat) (t : TypeId) (cs : Array Value) (fr : Nat × Nat) (d : TypeDesc) (u : Value)
    (hp : tmps.getD p undef = .pointer (some ⟨g, 0, none⟩)) (hq : tmps.getD q undef = u) (hg : w.heap[g]? = some (.cells cs t fr))
    (hu : P.underlying ty = some d) (hd : (match d with | .struct _ | .array _ _ => true | _ => false) = true) (hi : (P.info? ty).map (·.size) = some cs.size) :
    (results fn tmps).run P w = .ok (.tuple #[.agg cs, u]) w := by
  have hp' : tmps[p]?.getD undef = .pointer (some ⟨g, 0, none⟩) := by simpa using hp
  have hq' : tmps[q]?.getD undef = u := by simpa using hq
  simp [results, h, hp', hq', asAddr, run_loadVar_row w g t ty cs fr d hg hu hd hi]
abbrev s7 : List Int := [7, 0, 0, 0, 0, 0, 0, 0, 0, 0, 0, 0, 0, 0, 0, 0]
abbrev s7V : Value := .agg #[.int .u8 7, .int .u8 0, .int .u8 0, .int .u8 0, .int .u8 0, .int .u8 0, .int .u8 0, .int .u8 0, .int .u8 0, .int .u8 0, .int .u8 0, .int .u8 0, .int .u8 0, .int .u8 0, .int .u8 0, .int .u8 0]
abbrev z0V : Value := .agg #[.int .u8 0, .int .u8 0, .int .u8 0, .int .u8 0, .int .u8 0, .int .u8 0, .int .u8 0, .int .u8 0, .int .u8 0, .int .u8 0, .int .u8 0, .int .u8 0, .int .u8 0, .int .u8 0, .int .u8 0, .int .u8 0]
theorem s7_bytes : Bytes s7 := by intro x hx; simp [s7] at hx; omega
theorem z0_bytes : Bytes zeroS := by intro x hx; have := List.eq_of_mem_replicate hx; omega
theorem eq_s7 (w : World) : (binOp .eql 43 s7V s7V).run Tryd.prog w = .ok (.bool true) w := eql50 s7_bytes rfl w
theorem eq_z0 (w : World) : (binOp .eql 43 z0V z0V).run Tryd.prog w = .ok (.bool true) w := eql50 z0_bytes rfl w
theorem eqg_s7 (x y : Operand) (w : World) : (eqGuard .eql 43 x y s7V s7V).run Tryd.prog w = .ok () w := by kernel_rfl
theorem eqg_z0 (x y : Operand) (w : World) : (eqGuard .eql 43 x y z0V z0V).run Tryd.prog w = .ok () w := by kernel_rfl
end Go.Proofs.YtibbinenhmiclaaDoor
