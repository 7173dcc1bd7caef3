/-
  The document's Bytes of a frame.
-/
import Derived.Test.YtgabjmmmiogfjaaDoorFrB
import Derived.Test.YtgabjmmmiogfjaaDoorRtF
namespace Go.Proofs.YtgabjmmmiogfjaaDoor
open Go.RowKit

theorem wp_store_rowD {P : Program} {o : Oper} {a : Act} {w : World} {K : Act → World → Prop} {Q : Exit → Act → World → Prop} (hd : o.dst = none) (ty : TypeId) (x y : Operand) (ho : o.op = .store ty x y)
    (g : Nat) (cells : Array Value) (hx : a.eval x = .pointer (some ⟨g, 0, none⟩)) (hy : a.eval y = .agg cells)
    (t : TypeId) (cs : Array Value) (hg : w.heap[g]? = some (.cells cs t (0, 0))) (hi : (P.info? ty).map (·.size) = some cells.size)
    (hs : cs.size = cells.size) (h1 : cells.all (·.oneCell') = true) (h : K a (w.setRow g cells)) : o.wp P a w K Q := by
  refine wp_store_row ty x y ho g cells hx hy t cs hg hi hs h1 ?_
  rw [hd]
  exact h
theorem predOp_val {P : Program} {ops : Array Oper} {o : Oper} {V : World → Value → Prop} {a : Act} {w : World} {v : Value} (hw : Region.wanted o (yielded ops a.tmps) = true) (he : (execOp a.eval o).run P w = .ok (.value v) w) (hv : V w v) : PredOp P ops o V a w := Or.inl ⟨hw, predRun_value he hv⟩
theorem info122s : (Tryd.prog.info? 122).map (·.size) = some 2 := by kernel_rfl
theorem two_one (a : Option Addr) (n c : Nat) (b : Bool) : (#[Value.slice a n c, .bool b] : Array Value).all (·.oneCell') = true := by simp [Value.oneCell']
/-- A store into a box of a slice and a bool leaves bytes as they are. -/
theorem HoldsB.boxed {w : World} {M g : Nat} {u : Value} {l : List Int} {s : Value} {b : Bool} {t : TypeId} (h : HoldsB w M u l) (hb : Blk w g (.cells #[s, .bool b] t)) (hs : ∀ n, s ≠ .int .u8 n) (cs : Array Value) : HoldsB (w.setRow g cs) M u l := by
  obtain ⟨a, cap, h1, h2, h3, h4, h5, h6, h7⟩ := h
  refine ⟨a, cap, h1, h2, h3, h4, fun x hx h0 => ⟨(h5 x hx h0).1, (h5 x hx h0).2.1, by simpa [World.setRow] using (h5 x hx h0).2.2⟩, fun x i hx hi => ?_, h7⟩
  have h8 := h6 x i hx hi
  by_cases e : x.block = g
  · exfalso
    rw [e, hb.cell (x.off + i)] at h8
    match x.off + i, h8 with
    | 0, h8 => exact hs _ (by simpa using h8)
    | 1, h8 => simp at h8
    | k + 2, h8 => simp at h8
  · have : (w.setRow g cs).cell? ⟨x.block, x.off + i, none⟩ = w.cell? ⟨x.block, x.off + i, none⟩ := World.cell?_of_block (setRow_other _ _ _ _ e)
    rw [this]
    exact h8
set_option maxRecDepth 100000 in
set_option maxHeartbeats 4000000 in
theorem rbytes_any (p : FV) (tp : List Int) (w : World) (h : HoldsB w w.heap.size (.slice p.a p.n p.c) tp) (hr : frB p = true) (hid : BigP p) :
    Calls Tryd.prog 37 #[p.v] w fun r w' => ∃ v, r = .returned v ∧ HoldsB w' w'.heap.size v (laidM p tp) ∧ Below w.heap.size w w' := by
  have H := Kp.mk h
  have HR := Kp.mk (frB_is hr)
  have hn : p.n = tp.length := by
    obtain ⟨a1, n1, c1, e1, e2⟩ := h.slice
    simp only [Value.slice.injEq] at e1
    omega
  have HNT : Kp (tp.length ≤ 4096) := ⟨by rw [← hn]; exact HR.out.2.2.2.2.2.2.2⟩
  have HID := Kp.mk hid
  have hw1 : IntKind.u64.wrap p.fr = p.fr := u64_wrap (by have := HR.out; omega)
  have hw2 : IntKind.u64.wrap p.to = p.to := u64_wrap (by have := HR.out; omega)
  have hw3 : IntKind.u64.wrap p.ki = p.ki := u64_wrap (by have := HR.out; omega)
  obtain ⟨L1, hL1⟩ : ∃ L1, L1 = ([] : List Int) ++ digs 1 1 := ⟨_, rfl⟩
  obtain ⟨L2, hL2⟩ : ∃ L2, L2 = L1 ++ digs p.fr 1 := ⟨_, rfl⟩
  obtain ⟨L3, hL3⟩ : ∃ L3, L3 = L2 ++ digs p.to 1 := ⟨_, rfl⟩
  obtain ⟨L4, hL4⟩ : ∃ L4, L4 = L3 ++ digs p.bo 8 := ⟨_, rfl⟩
  obtain ⟨L5, hL5⟩ : ∃ L5, L5 = L4 ++ digs p.co 8 := ⟨_, rfl⟩
  obtain ⟨L6, hL6⟩ : ∃ L6, L6 = L5 ++ digs p.ki 1 := ⟨_, rfl⟩
  obtain ⟨PM, hPM⟩ : ∃ PM, PM = laidM p tp := ⟨_, rfl⟩
  have H1 : Kp (L1.length = 1) := ⟨by rw [hL1]; simp [digs_len]⟩
  have H2 : Kp (L2.length = 2) := ⟨by rw [hL2]; simp [digs_len, H1.out]⟩
  have H3 : Kp (L3.length = 3) := ⟨by rw [hL3]; simp [digs_len, H2.out]⟩
  have H4 : Kp (L4.length = 11) := ⟨by rw [hL4]; simp [digs_len, H3.out]⟩
  have H5 : Kp (L5.length = 19) := ⟨by rw [hL5]; simp [digs_len, H4.out]⟩
  have H6 : Kp (L6.length = 20) := ⟨by rw [hL6]; simp [digs_len, H5.out]⟩
  have ok : ∀ (l : List Int) (n : Int) (k : Nat), n < 256 ^ k → (if 256 ^ k ≤ n then l else l ++ digs n k) = l ++ digs n k ∧ numF false n k = false := fun l n k h => ⟨if_neg (by omega), by unfold numF; simp; omega⟩
  have E1 : Kp ((if 256 ^ 1 ≤ (1 : Int) then ([] : List Int) else [] ++ digs 1 1) = L1 ∧ numF false 1 1 = false) := ⟨by rw [hL1]; exact ok _ _ _ (by decide)⟩
  have E2 : Kp ((if 256 ^ 1 ≤ (p.fr : Int) then L1 else L1 ++ digs p.fr 1) = L2 ∧ numF false p.fr 1 = false) := ⟨by rw [hL2]; exact ok _ _ _ (by have := HR.out; omega)⟩
  have E3 : Kp ((if 256 ^ 1 ≤ (p.to : Int) then L2 else L2 ++ digs p.to 1) = L3 ∧ numF false p.to 1 = false) := ⟨by rw [hL3]; exact ok _ _ _ (by have := HR.out; omega)⟩
  have E4 : Kp ((if 256 ^ 8 ≤ (p.bo : Int) then L3 else L3 ++ digs p.bo 8) = L4 ∧ numF false p.bo 8 = false) := ⟨by rw [hL4]; exact ok _ _ _ (by have := HID.out.1.2; omega)⟩
  have E5 : Kp ((if 256 ^ 8 ≤ (p.co : Int) then L4 else L4 ++ digs p.co 8) = L5 ∧ numF false p.co 8 = false) := ⟨by rw [hL5]; exact ok _ _ _ (by have := HID.out.2.2; omega)⟩
  have E6 : Kp ((if 256 ^ 1 ≤ (p.ki : Int) then L5 else L5 ++ digs p.ki 1) = L6 ∧ numF false p.ki 1 = false) := ⟨by rw [hL6]; exact ok _ _ _ (by have := HR.out; omega)⟩
  have E7 : Kp ((if 4096 < tp.length then L6 else L6 ++ digs tp.length 2 ++ tp) = PM ∧ (false || decide (4096 < tp.length)) = false) := ⟨by
    have := HNT.out
    rw [if_neg (by omega), hPM, hL6, hL5, hL4, hL3, hL2, hL1]
    exact ⟨by unfold laidM headM; simp, by simp; omega⟩⟩
  have HPM := Kp.mk hPM
  clear h hn hid hr ok hL1 hL2 hL3 hL4 hL5 hL6 hPM
  go_enter Tryd.func37, Tryd.ntmps37
  go_wp2_with fail
  obtain ⟨F, hF⟩ : ∃ F, F = w.heap.size := ⟨_, rfl⟩
  have HFe := Kp.mk hF
  have HB1 : Kp (Below F w (w.alloc (p.box 26))) := ⟨by rw [hF]; exact more (Below.refl _ _) _⟩
  have HP1 : Kp (Blk (w.alloc (p.box 26)) F (p.box 26)) := ⟨Blk.newAt _ hF⟩
  have HT1 : Kp (HoldsB (w.alloc (p.box 26)) F (.slice p.a p.n p.c) tp) := ⟨by rw [hF]; exact H.out.alloc _⟩
  rw [← hF]
  clear hF
  generalize w.alloc (p.box 26) = w1 at *
  refine wp_region_pred (fun w' => Blk w' F (p.box 26) ∧ HoldsB w' F (.slice p.a p.n p.c) tp ∧ Below F w w') [0, 1, 2, 3, 4, 5, 6, 7, 8, 9, 10, 11, 12, 13, 14, 15, 16, 17, 18, 19, 20, 21, 22, 23] [24]
    (fun ι w' v => match ι with
      | 0 => v = .agg #[.slice none 0 0, .bool false]
      | 2 => v = .pointer (some ⟨F, 0, none⟩)
      | 3 => v = .int .i64 p.fr
      | 4 => v = .int .u64 p.fr
      | 6 => v = .pointer (some ⟨F, 1, none⟩)
      | 7 => v = .int .i64 p.to
      | 8 => v = .int .u64 p.to
      | 10 => v = .pointer (some ⟨F, 2, none⟩)
      | 11 => v = .int .u64 p.bo
      | 13 => v = .pointer (some ⟨F, 3, none⟩)
      | 14 => v = .int .u64 p.co
      | 16 => v = .pointer (some ⟨F, 4, none⟩)
      | 17 => v = .int .i64 p.ki
      | 18 => v = .int .u64 p.ki
      | 20 => v = .pointer (some ⟨F, 5, none⟩)
      | 21 => v = .slice p.a p.n p.c
      | 1 => ∃ u, v = routV u false ∧ HoldsB w' w'.heap.size u L1
      | 5 => ∃ u, v = routV u false ∧ HoldsB w' w'.heap.size u L2
      | 9 => ∃ u, v = routV u false ∧ HoldsB w' w'.heap.size u L3
      | 12 => ∃ u, v = routV u false ∧ HoldsB w' w'.heap.size u L4
      | 15 => ∃ u, v = routV u false ∧ HoldsB w' w'.heap.size u L5
      | 19 => ∃ u, v = routV u false ∧ HoldsB w' w'.heap.size u L6
      | 22 => ∃ u, v = routV u false ∧ HoldsB w' w'.heap.size u PM
      | 23 => ∃ g, v = .pointer (some ⟨g, 0, none⟩) ∧ F < g ∧ Blk w' g (.cells #[.slice none 0 0, .bool false] 122)
      | _ => v = .bool true)
    [[], [(0, some 4)], [], [(2, some 6)], [(3, some 7)], [(1, some 5), (4, some 8)], [], [(6, some 10)], [(7, some 11)], [(5, some 9), (8, some 12)], [], [(10, some 14)], [(9, some 13), (11, some 15)], [], [(13, some 17)], [(12, some 16), (14, some 18)], [], [(16, some 20)], [(17, some 21)], [(15, some 19), (18, some 22)], [], [(20, some 24)], [(19, some 23), (21, some 25)], []]
    [(0, some 4), (1, some 5), (2, some 6), (3, some 7), (4, some 8), (5, some 9), (6, some 10), (7, some 11), (8, some 12), (9, some 13), (10, some 14), (11, some 15), (12, some 16), (13, some 17), (14, some 18), (15, some 19), (16, some 20), (17, some 21), (18, some 22), (19, some 23), (20, some 24), (21, some 25), (22, some 26), (23, some 3)]
    (by kernel_rfl) (by kernel_rfl) (by kernel_rfl) (by kernel_rfl) (by kernel_rfl) (by kernel_rfl) (by decide) (by decide) (fun w1 w2 h hb => ⟨h.1.keep hb, h.2.1.keep hb, h.2.2.trans (hb.mono (Nat.le_of_lt h.1.lt))⟩) ?_ ⟨HP1.out.keep (Below.refl _ _).drew, HT1.out.keep (Below.refl _ _).drew, HB1.out.drew⟩ ?_ ?_
  · intro ι w1 w2 v h hb
    by_cases h1 : ι = 1
    · subst h1
      exact (by obtain ⟨u, e, hg⟩ := h; exact ⟨u, e, hg.grow hb⟩)
    by_cases h5 : ι = 5
    · subst h5
      exact (by obtain ⟨u, e, hg⟩ := h; exact ⟨u, e, hg.grow hb⟩)
    by_cases h9 : ι = 9
    · subst h9
      exact (by obtain ⟨u, e, hg⟩ := h; exact ⟨u, e, hg.grow hb⟩)
    by_cases h12 : ι = 12
    · subst h12
      exact (by obtain ⟨u, e, hg⟩ := h; exact ⟨u, e, hg.grow hb⟩)
    by_cases h15 : ι = 15
    · subst h15
      exact (by obtain ⟨u, e, hg⟩ := h; exact ⟨u, e, hg.grow hb⟩)
    by_cases h19 : ι = 19
    · subst h19
      exact (by obtain ⟨u, e, hg⟩ := h; exact ⟨u, e, hg.grow hb⟩)
    by_cases h22 : ι = 22
    · subst h22
      exact (by obtain ⟨u, e, hg⟩ := h; exact ⟨u, e, hg.grow hb⟩)
    by_cases h23 : ι = 23
    · subst h23
      exact (by obtain ⟨g, e, e1, e2⟩ := h; exact ⟨g, e, e1, e2.keep hb⟩)
    match ι, h1, h5, h9, h12, h15, h19, h22, h23, h with
    | 0, _, _, _, _, _, _, _, _, h => exact h
    | 1, g, _, _, _, _, _, _, _, h => exact absurd rfl g
    | 2, _, _, _, _, _, _, _, _, h => exact h
    | 3, _, _, _, _, _, _, _, _, h => exact h
    | 4, _, _, _, _, _, _, _, _, h => exact h
    | 5, _, g, _, _, _, _, _, _, h => exact absurd rfl g
    | 6, _, _, _, _, _, _, _, _, h => exact h
    | 7, _, _, _, _, _, _, _, _, h => exact h
    | 8, _, _, _, _, _, _, _, _, h => exact h
    | 9, _, _, g, _, _, _, _, _, h => exact absurd rfl g
    | 10, _, _, _, _, _, _, _, _, h => exact h
    | 11, _, _, _, _, _, _, _, _, h => exact h
    | 12, _, _, _, g, _, _, _, _, h => exact absurd rfl g
    | 13, _, _, _, _, _, _, _, _, h => exact h
    | 14, _, _, _, _, _, _, _, _, h => exact h
    | 15, _, _, _, _, g, _, _, _, h => exact absurd rfl g
    | 16, _, _, _, _, _, _, _, _, h => exact h
    | 17, _, _, _, _, _, _, _, _, h => exact h
    | 18, _, _, _, _, _, _, _, _, h => exact h
    | 19, _, _, _, _, _, g, _, _, h => exact absurd rfl g
    | 20, _, _, _, _, _, _, _, _, h => exact h
    | 21, _, _, _, _, _, _, _, _, h => exact h
    | 22, _, _, _, _, _, _, g, _, h => exact absurd rfl g
    | 23, _, _, _, _, _, _, _, g, h => exact absurd rfl g
    | _ + 24, _, _, _, _, _, _, _, _, h => exact h
  · refine ⟨fun γ wx hS h => ?_, fun γ wx hS h => ?_, fun γ wx hS h => ?_, fun γ wx hS h => ?_, fun γ wx hS h => ?_, fun γ wx hS h => ?_, fun γ wx hS h => ?_, fun γ wx hS h => ?_, fun γ wx hS h => ?_, fun γ wx hS h => ?_, fun γ wx hS h => ?_, fun γ wx hS h => ?_, fun γ wx hS h => ?_, fun γ wx hS h => ?_, fun γ wx hS h => ?_, fun γ wx hS h => ?_, fun γ wx hS h => ?_, fun γ wx hS h => ?_, fun γ wx hS h => ?_, fun γ wx hS h => ?_, fun γ wx hS h => ?_, fun γ wx hS h => ?_, fun γ wx hS h => ?_, fun γ wx hS h => ?_, trivial⟩
    · refine ⟨_, rfl, ?_⟩
      refine predOp_val (v := .agg #[.slice none 0 0, .bool false]) ?_ ?_ ?_
      · kernel_rfl
      · simp only [putE]
        go_simp
      · rfl
    · have h0 := h
      have e0 : γ 0 = .agg #[.slice none 0 0, .bool false] := h0
      refine ⟨_, rfl, Or.inl ⟨rfl, predRun_call (f := 55) (args := #[routV (.slice none 0 0) false, .int .u64 1, .int .i64 (1 : Nat)]) (by simp only [putE, e0]; go_simp) ?_⟩⟩
      exact (rnum_any _ (.slice none 0 0) _ false 1 1 wx (HoldsB.nil _ _) (Nat.le_refl _) (by decide) (by decide) (by decide) (by decide)).mono fun r w9 ⟨v', h1, h2, _, h4⟩ => ⟨_, h1, ⟨v', by rw [E1.out.2], by rw [← E1.out.1]; exact h2⟩, h4⟩
    · refine ⟨_, rfl, ?_⟩
      refine predOp_val (v := .pointer (some ⟨F, 0, none⟩)) ?_ ?_ ?_
      · kernel_rfl
      · simp only [putE]
        go_simp
      · rfl
    · have h2 := h
      have e2 : γ 2 = .pointer (some ⟨F, 0, none⟩) := h2
      have hcell : wx.cell? ⟨F, 0, none⟩ = some (.int .i64 p.fr) := hS.1.cell 0
      refine ⟨_, rfl, ?_⟩
      refine predOp_val (v := .int .i64 p.fr) ?_ ?_ ?_
      · kernel_rfl
      · simp only [putE, e2]
        go_simp
      · rfl
    · have h3 := h
      have e3 : γ 3 = .int .i64 p.fr := h3
      have hq := hw1
      refine ⟨_, rfl, ?_⟩
      refine predOp_val (v := .int .u64 p.fr) ?_ ?_ ?_
      · kernel_rfl
      · simp only [putE, e3]
        go_simp
      · rfl
    · obtain ⟨h1, h4⟩ := h
      have p1 : ∃ u, (γ 1) = routV u false ∧ HoldsB wx wx.heap.size u L1 := h1
      have e4 : γ 4 = .int .u64 p.fr := h4
      obtain ⟨u, e1, hu⟩ := p1
      refine ⟨_, rfl, Or.inl ⟨rfl, predRun_call (f := 55) (args := #[routV u false, .int .u64 p.fr, .int .i64 (1 : Nat)]) (by simp only [putE, e4]; go_simp) ?_⟩⟩
      exact (rnum_any _ u _ false p.fr 1 wx hu (Nat.le_refl _) (by have := HR.out; omega) (by have := HR.out; omega) (by decide) (by rw [H1.out]; decide)).mono fun r w9 ⟨v', h1, h2, _, h4⟩ => ⟨_, h1, ⟨v', by rw [E2.out.2], by rw [← E2.out.1]; exact h2⟩, h4⟩
    · refine ⟨_, rfl, ?_⟩
      refine predOp_val (v := .pointer (some ⟨F, 1, none⟩)) ?_ ?_ ?_
      · kernel_rfl
      · simp only [putE]
        go_simp
      · rfl
    · have h6 := h
      have e6 : γ 6 = .pointer (some ⟨F, 1, none⟩) := h6
      have hcell : wx.cell? ⟨F, 1, none⟩ = some (.int .i64 p.to) := hS.1.cell 1
      refine ⟨_, rfl, ?_⟩
      refine predOp_val (v := .int .i64 p.to) ?_ ?_ ?_
      · kernel_rfl
      · simp only [putE, e6]
        go_simp
      · rfl
    · have h7 := h
      have e7 : γ 7 = .int .i64 p.to := h7
      have hq := hw2
      refine ⟨_, rfl, ?_⟩
      refine predOp_val (v := .int .u64 p.to) ?_ ?_ ?_
      · kernel_rfl
      · simp only [putE, e7]
        go_simp
      · rfl
    · obtain ⟨h5, h8⟩ := h
      have p5 : ∃ u, (γ 5) = routV u false ∧ HoldsB wx wx.heap.size u L2 := h5
      have e8 : γ 8 = .int .u64 p.to := h8
      obtain ⟨u, e5, hu⟩ := p5
      refine ⟨_, rfl, Or.inl ⟨rfl, predRun_call (f := 55) (args := #[routV u false, .int .u64 p.to, .int .i64 (1 : Nat)]) (by simp only [putE, e8]; go_simp) ?_⟩⟩
      exact (rnum_any _ u _ false p.to 1 wx hu (Nat.le_refl _) (by have := HR.out; omega) (by have := HR.out; omega) (by decide) (by rw [H2.out]; decide)).mono fun r w9 ⟨v', h1, h2, _, h4⟩ => ⟨_, h1, ⟨v', by rw [E3.out.2], by rw [← E3.out.1]; exact h2⟩, h4⟩
    · refine ⟨_, rfl, ?_⟩
      refine predOp_val (v := .pointer (some ⟨F, 2, none⟩)) ?_ ?_ ?_
      · kernel_rfl
      · simp only [putE]
        go_simp
      · rfl
    · have h10 := h
      have e10 : γ 10 = .pointer (some ⟨F, 2, none⟩) := h10
      have hcell : wx.cell? ⟨F, 2, none⟩ = some (.int .u64 p.bo) := hS.1.cell 2
      refine ⟨_, rfl, ?_⟩
      refine predOp_val (v := .int .u64 p.bo) ?_ ?_ ?_
      · kernel_rfl
      · simp only [putE, e10]
        go_simp
      · rfl
    · obtain ⟨h9, h11⟩ := h
      have p9 : ∃ u, (γ 9) = routV u false ∧ HoldsB wx wx.heap.size u L3 := h9
      have e11 : γ 11 = .int .u64 p.bo := h11
      obtain ⟨u, e9, hu⟩ := p9
      refine ⟨_, rfl, Or.inl ⟨rfl, predRun_call (f := 55) (args := #[routV u false, .int .u64 p.bo, .int .i64 (8 : Nat)]) (by simp only [putE, e11]; go_simp) ?_⟩⟩
      exact (rnum_any _ u _ false p.bo 8 wx hu (Nat.le_refl _) HID.out.1.1 HID.out.1.2 (by decide) (by rw [H3.out]; decide)).mono fun r w9 ⟨v', h1, h2, _, h4⟩ => ⟨_, h1, ⟨v', by rw [E4.out.2], by rw [← E4.out.1]; exact h2⟩, h4⟩
    · refine ⟨_, rfl, ?_⟩
      refine predOp_val (v := .pointer (some ⟨F, 3, none⟩)) ?_ ?_ ?_
      · kernel_rfl
      · simp only [putE]
        go_simp
      · rfl
    · have h13 := h
      have e13 : γ 13 = .pointer (some ⟨F, 3, none⟩) := h13
      have hcell : wx.cell? ⟨F, 3, none⟩ = some (.int .u64 p.co) := hS.1.cell 3
      refine ⟨_, rfl, ?_⟩
      refine predOp_val (v := .int .u64 p.co) ?_ ?_ ?_
      · kernel_rfl
      · simp only [putE, e13]
        go_simp
      · rfl
    · obtain ⟨h12, h14⟩ := h
      have p12 : ∃ u, (γ 12) = routV u false ∧ HoldsB wx wx.heap.size u L4 := h12
      have e14 : γ 14 = .int .u64 p.co := h14
      obtain ⟨u, e12, hu⟩ := p12
      refine ⟨_, rfl, Or.inl ⟨rfl, predRun_call (f := 55) (args := #[routV u false, .int .u64 p.co, .int .i64 (8 : Nat)]) (by simp only [putE, e14]; go_simp) ?_⟩⟩
      exact (rnum_any _ u _ false p.co 8 wx hu (Nat.le_refl _) HID.out.2.1 HID.out.2.2 (by decide) (by rw [H4.out]; decide)).mono fun r w9 ⟨v', h1, h2, _, h4⟩ => ⟨_, h1, ⟨v', by rw [E5.out.2], by rw [← E5.out.1]; exact h2⟩, h4⟩
    · refine ⟨_, rfl, ?_⟩
      refine predOp_val (v := .pointer (some ⟨F, 4, none⟩)) ?_ ?_ ?_
      · kernel_rfl
      · simp only [putE]
        go_simp
      · rfl
    · have h16 := h
      have e16 : γ 16 = .pointer (some ⟨F, 4, none⟩) := h16
      have hcell : wx.cell? ⟨F, 4, none⟩ = some (.int .i64 p.ki) := hS.1.cell 4
      refine ⟨_, rfl, ?_⟩
      refine predOp_val (v := .int .i64 p.ki) ?_ ?_ ?_
      · kernel_rfl
      · simp only [putE, e16]
        go_simp
      · rfl
    · have h17 := h
      have e17 : γ 17 = .int .i64 p.ki := h17
      have hq := hw3
      refine ⟨_, rfl, ?_⟩
      refine predOp_val (v := .int .u64 p.ki) ?_ ?_ ?_
      · kernel_rfl
      · simp only [putE, e17]
        go_simp
      · rfl
    · obtain ⟨h15, h18⟩ := h
      have p15 : ∃ u, (γ 15) = routV u false ∧ HoldsB wx wx.heap.size u L5 := h15
      have e18 : γ 18 = .int .u64 p.ki := h18
      obtain ⟨u, e15, hu⟩ := p15
      refine ⟨_, rfl, Or.inl ⟨rfl, predRun_call (f := 55) (args := #[routV u false, .int .u64 p.ki, .int .i64 (1 : Nat)]) (by simp only [putE, e18]; go_simp) ?_⟩⟩
      exact (rnum_any _ u _ false p.ki 1 wx hu (Nat.le_refl _) (by have := HR.out; omega) (by have := HR.out; omega) (by decide) (by rw [H5.out]; decide)).mono fun r w9 ⟨v', h1, h2, _, h4⟩ => ⟨_, h1, ⟨v', by rw [E6.out.2], by rw [← E6.out.1]; exact h2⟩, h4⟩
    · refine ⟨_, rfl, ?_⟩
      refine predOp_val (v := .pointer (some ⟨F, 5, none⟩)) ?_ ?_ ?_
      · kernel_rfl
      · simp only [putE]
        go_simp
      · rfl
    · have h20 := h
      have e20 : γ 20 = .pointer (some ⟨F, 5, none⟩) := h20
      have hcell : wx.cell? ⟨F, 5, none⟩ = some (.slice p.a p.n p.c) := hS.1.cell 5
      refine ⟨_, rfl, ?_⟩
      refine predOp_val (v := .slice p.a p.n p.c) ?_ ?_ ?_
      · kernel_rfl
      · simp only [putE, e20]
        go_simp
      · rfl
    · obtain ⟨h19, h21⟩ := h
      have p19 : ∃ u, (γ 19) = routV u false ∧ HoldsB wx wx.heap.size u L6 := h19
      have e21 : γ 21 = .slice p.a p.n p.c := h21
      obtain ⟨u, e19, hu⟩ := p19
      refine ⟨_, rfl, Or.inl ⟨rfl, predRun_call (f := 76) (args := #[routV u false, .slice p.a p.n p.c]) (by simp only [putE, e21]; go_simp) ?_⟩⟩
      exact (roblob_any wx.heap.size u _ L6 tp false wx hu (hS.2.1.mono (Nat.le_of_lt hS.1.lt)) (Nat.le_refl _) (by rw [H6.out]; decide)).mono fun r w9 ⟨v', h1, h2, _, h4⟩ => ⟨_, h1, ⟨v', by rw [E7.out.2], by rw [← E7.out.1]; exact h2⟩, h4⟩
    · refine ⟨_, rfl, Or.inl ⟨rfl, predRun_new (w' := wx.alloc (.cells #[.slice none 0 0, .bool false] 122)) (v := .pointer (some ⟨wx.heap.size, 0, none⟩)) (by simp only [putE]; first | rfl | (go_simp; done) | (go_simp; rfl)) (more (Below.refl _ _) _) ⟨_, rfl, hS.1.lt, Blk.new _ _⟩⟩⟩
  · intro γ w9 hS h
    obtain ⟨g, eg, hFg, hgb⟩ := h.2.2.2.2.2.2.2.2.2.2.2.2.2.2.2.2.2.2.2.2.2.2.2
    obtain ⟨u, eu, hu⟩ := h.2.2.2.2.2.2.2.2.2.2.2.2.2.2.2.2.2.2.2.2.2.2.1
    have H1 := Kp.mk hFg
    have H2 := Kp.mk hgb
    have H3' := Kp.mk hu
    have HS3 := Kp.mk hS
    simp only [putE, Act.put, List.setIfInBounds_toArray, List.set_cons_zero, List.set_cons_succ]
    rw [eg, eu]
    clear h hS hFg hgb hu eg eu
    obtain ⟨ua, un, uc, rfl, -⟩ := H3'.out.slice
    refine wpOps_step rfl rfl ?_
    refine wp_store_rowD rfl 122 (.tmp 3) (.tmp 26) rfl g #[.slice ua un uc, .bool false] rfl rfl 122 _ H2.out info122s rfl (two_one _ _ _ _) ?_
    have HU : Kp (HoldsB (w9.setRow g #[.slice ua un uc, .bool false]) (w9.setRow g #[.slice ua un uc, .bool false]).heap.size (.slice ua un uc) PM) := ⟨(HoldsB.boxed H3'.out H2.out (by intro n e; cases e) _).mono (by simp [World.setRow])⟩
    have HG : Kp (Blk (w9.setRow g #[.slice ua un uc, .bool false]) g (.cells #[.slice ua un uc, .bool false] 122)) := ⟨Blk.setRow H2.out _⟩
    have HB9 : Kp (Below F w (w9.setRow g #[.slice ua un uc, .bool false])) := ⟨Below.row HS3.out.2.2 (Nat.le_of_lt H1.out) _⟩
    generalize w9.setRow g #[.slice ua un uc, .bool false] = w10 at *
    obtain ⟨c0, c1, -⟩ := HG.out.two
    refine wpOps_done ?_
    go_wp2_with fail
    go_ret
    exact ⟨_, rfl, by rw [← HPM.out]; exact HU.out, by rw [← HFe.out]; exact HB9.out⟩end Go.Proofs.YtgabjmmmiogfjaaDoor
