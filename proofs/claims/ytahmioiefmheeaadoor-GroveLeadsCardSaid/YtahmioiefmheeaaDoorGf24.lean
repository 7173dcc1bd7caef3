/-
  The law LadderShows, walked.
-/
import Derived.Test.YtahmioiefmheeaaDoorGf23
namespace Go.Proofs.YtahmioiefmheeaaDoor
open Go.RowKit

theorem HoldsS.front {w : World} {a : Option Addr} {n cap : Nat} {l : List Int} (h : HoldsS w (.slice a n cap) n l) {k : Nat} (hk : k ≤ n) : HoldsS w (.slice a k cap) k (l.take (k * 16)) := by
  obtain ⟨a', c', e, h1, h2, h3, h4⟩ := h
  simp only [Value.slice.injEq] at e
  obtain ⟨rfl, -, rfl⟩ := e
  refine ⟨a, cap, rfl, by rw [List.length_take]; omega, by omega, h3.take _, fun h0 => ?_⟩
  obtain ⟨b, off, ha, hlt, hc⟩ := h4 (by omega)
  refine ⟨b, off, ha, hlt, fun j hj => ?_⟩
  rw [hc j (by omega), List.getD_eq_getElem?_getD, List.getD_eq_getElem?_getD, List.getElem?_take, if_pos hj]
theorem HoldsS.lt {w : World} {a : Option Addr} {n c : Nat} {l : List Int} (h : HoldsS w (.slice a n c) n l) (h0 : 0 < n) : ∀ x, a = some x → x.block < w.heap.size := fun x hx => by
  obtain ⟨a', c', e, h1, h2, h3, h4⟩ := h
  obtain ⟨b, off, ha, hlt, hc⟩ := h4 h0
  simp only [Value.slice.injEq] at e
  obtain ⟨rfl, -⟩ := e
  rw [hx] at ha
  cases ha
  exact hlt
theorem HoldsS.off2 {w : World} {a : Option Addr} {n c : Nat} {l : List Int} {g : Nat} (h : HoldsS w (.slice a n c) n l) (ho : 0 < n → Off g (.slice a n c)) (cs : Array Value) : HoldsS (w.setRow g cs) (.slice a n c) n l := by
  by_cases h0 : 0 < n
  · exact h.off (ho h0) cs
  · obtain ⟨a', c', e, h1, h2, h3, h4⟩ := h
    exact ⟨a', c', e, h1, h2, h3, fun h => absurd h h0⟩
theorem showN_le (r m i : Int) : showN r m i ≤ 3 := by
  unfold showN
  split
  · have := lev_range m; omega
  · omega
theorem showW_len (d e s r : Int) (x : List Int) (m i : Int) : (showW d e s r x m i).length = showN r m i * 16 := by
  unfold showW showN
  split
  · exact wayL_len _ _ _ _ _ _ _
  · rfl
theorem showW_bytes (d e s r : Int) (x : List Int) (m i : Int) : Bytes (showW d e s r x m i) := by
  unfold showW
  split
  · exact wayL_bytes _ _ _ _ _ _ _
  · exact Bytes.nil
/-- The law behind the cut of the way: what it asks of a way of at most twenty sums. -/
def cutN (n : Nat) : Nat := if 20 < n then 20 else n
theorem cutN_le (n : Nat) : cutN n ≤ n ∧ cutN n ≤ 20 := by unfold cutN; split <;> omega
set_option maxRecDepth 100000 in
set_option maxHeartbeats 8000000 in
theorem ladderShows_walk (x0_0 x0_1 x0_2 : Int) (x1 x2 x3 : Int) (x4 x5 : List Int) (a6 : Option Addr) (len6 cap6 : Nat) (z6 : List Int) (w : World) (_w0_0 : (Lit.int .i64 x0_0).wf = true) (w0_1 : (Lit.int .u32 x0_1).wf = true) (w0_2 : (Lit.int .u32 x0_2).wf = true) (_w1 : (Lit.int .i64 x1).wf = true) (_w2 : (Lit.int .i64 x2).wf = true) (_w3 : (Lit.int .i64 x3).wf = true) (l4 : x4.length = 16) (b4 : Bytes x4) (l5 : x5.length = 16) (b5 : Bytes x5) (w6 : HoldsS w (.slice a6 len6 cap6) len6 z6 ∧ len6 ≤ cap6 ∧ cap6 ≤ maxLen) (hk : KonIs w) :
    Calls Tryd.prog 9 #[plV x0_0 x0_1 x0_2, .int .i64 x1, .int .i64 x2, .int .i64 x3, dgV x4, dgV x5, .slice a6 len6 cap6] w fun e w' => e = .returned (.bool true) ∧ Below w.heap.size w w' := by
  have HE := Kp.mk (u32_wf w0_1)
  have HS := Kp.mk (u32_wf w0_2)
  have HX4 := Kp.mk l4
  have HB4 := Kp.mk b4
  have HX5 := Kp.mk l5
  have HB5 := Kp.mk b5
  have HK := Kp.mk hk
  have HR6 := Kp.mk w6.1
  have hc1 := w6.2.1
  have hc2 := w6.2.2
  unfold maxLen at hc2
  clear _w0_0 w0_1 w0_2 _w1 _w2 _w3 l4 b4 l5 b5 hk w6
  obtain ⟨z, hz⟩ : ∃ z, z = showS x0_0 x0_1 x0_2 x1 x4 x2 x3 := ⟨_, rfl⟩
  obtain ⟨q, hq⟩ : ∃ q, q = showF x1 x2 x3 := ⟨_, rfl⟩
  obtain ⟨n, hn⟩ : ∃ n, n = showN x1 x2 x3 := ⟨_, rfl⟩
  obtain ⟨Wl, hw⟩ : ∃ l, l = showW x0_0 x0_1 x0_2 x1 x4 x2 x3 := ⟨_, rfl⟩
  obtain ⟨n6, hn6⟩ : ∃ n, n = cutN len6 := ⟨_, rfl⟩
  obtain ⟨p6, hp6⟩ : ∃ p, p = z6.take (n6 * 16) := ⟨_, rfl⟩
  obtain ⟨u, hu⟩ : ∃ u, u = riseS x0_0 x0_1 x0_2 x1 x5 x2 x3 p6 n6 := ⟨_, rfl⟩
  obtain ⟨q5, hq5⟩ : ∃ q, q = riseF x1 x2 x3 n6 := ⟨_, rfl⟩
  have HL_z : Kp (z.length = 16 ∧ Bytes z) := ⟨by rw [hz]; exact ⟨showS_len _ _ _ _ _ _ _, showS_bytes _ _ _ _ _ _ _⟩⟩
  have HL_u : Kp (u.length = 16 ∧ Bytes u) := ⟨by rw [hu]; exact ⟨riseS_len _ _ _ _ _ _ _ _ _ HX5.out, riseS_bytes _ _ _ _ _ _ _ _ _ HB5.out⟩⟩
  have hn20 : n6 ≤ 20 := by rw [hn6]; exact (cutN_le _).2
  have HR7 : Kp (HoldsS w (.slice a6 n6 cap6) n6 p6) := ⟨by rw [hp6]; exact HR6.out.front (by rw [hn6]; exact (cutN_le _).1)⟩
  have HP6 : Kp (p6.length = n6 * 16 ∧ Bytes p6) := ⟨by obtain ⟨_, _, _, k1, _, k2, _⟩ := HR7.out; exact ⟨k1, k2⟩⟩
  have HWl : Kp (Wl.length = n * 16 ∧ Bytes Wl) := ⟨by rw [hw, hn]; exact ⟨showW_len _ _ _ _ _ _ _, showW_bytes _ _ _ _ _ _ _⟩⟩
  have HN3 : Kp (n ≤ 1000000) := ⟨by rw [hn]; have := showN_le x1 x2 x3; omega⟩
  have HZQ := Kp.mk (And.intro hz (And.intro hq (And.intro hn hw)))
  have HUQ := Kp.mk (And.intro hu hq5)
  have HN6 := Kp.mk hn6
  clear hz hq hn hw hu hq5 hp6 hn6
  obtain ⟨A, hA⟩ : ∃ A, A = w.heap.size := ⟨_, rfl⟩
  have HA := Kp.mk hA
  go_enter Tryd.func9, Tryd.ntmps9
  by_cases hcut : 20 < len6
  · have hn7 : n6 = 20 := by rw [HN6.out]; unfold cutN; rw [if_pos hcut]
    subst hn7
    go_wp2_with fail
    rw [← hA]
    refine wp_world (fun W => Blk W A (.cells #[.int .i64 x0_0, .int .u32 x0_1, .int .u32 x0_2] 48) ∧ Row W (A + 1) 32 .u8 x4 ∧ Row W (A + 1 + 1) 32 .u8 x5 ∧ Below A w W) ⟨Blk.old (Blk.old (Blk.newAt _ hA) _) _, Blk.old (Blk.newAt _ (by simp [hA])) _, Blk.newAt _ (by simp [hA]), by rw [hA]; exact more (more (more (Below.refl _ _) _) _) _⟩ ?_
    clear hA
    rintro W1 ⟨g1, g2, g3, g4⟩
    have P1 := Kp.mk g1
    have R1_e := Kp.mk g2
    have R1_l := Kp.mk g3
    have B1 := Kp.mk g4
    have Y1_6 : Kp (HoldsS W1 (.slice a6 20 cap6) 20 p6) := ⟨HR7.out.keep (by rw [← HA.out]; exact g4)⟩
    clear g1 g2 g3 g4
    obtain ⟨M1, hM⟩ : ∃ M, M = W1.heap.size := ⟨_, rfl⟩
    have hbA1 : A < M1 := by rw [hM]; exact P1.out.lt
    have hb1_e : A + 1 < M1 := by rw [hM]; exact R1_e.out.lt
    have hb1_l : A + 1 + 1 < M1 := by rw [hM]; exact R1_l.out.lt
    have HM1 : Kp (M1 ≤ W1.heap.size) := ⟨Nat.le_of_eq hM⟩
    have HMs1 : Kp (W1.heap.size ≤ M1) := ⟨Nat.le_of_eq hM.symm⟩
    have HWB1_6 : Kp (0 < 20 → ∀ x, a6 = some x → x.block < M1) := ⟨fun h0 x hx => Nat.lt_of_lt_of_le (Y1_6.out.lt h0 x hx) HMs1.out⟩
    clear hM
    refine wp_region_predR (fun w' => Blk w' A (.cells #[.int .i64 x0_0, .int .u32 x0_1, .int .u32 x0_2] 48) ∧ Row w' (A + 1) 32 .u8 x4 ∧ Row w' (A + 1 + 1) 32 .u8 x5 ∧ HoldsS w' (.slice a6 20 cap6) 20 p6 ∧ M1 ≤ w'.heap.size ∧ Below A w w') [0, 1, 2, 3, 4, 5, 6, 7, 8, 9, 10, 11] [9, 10] [12, 13, 14]
      (fun ι w' v => match ι with
        | 0 | 1 => v = plV x0_0 x0_1 x0_2
        | 2 => v = .int .i64 x1
        | 3 => v = dgV x4
        | 4 => v = .int .i64 x2
        | 5 => v = .int .i64 x3
        | 8 => v = dgV z
        | 10 => v = .int .i64 q
        | 6 => TupS w' v z q n Wl
        | 7 => TupS w' v z q n Wl
        | 9 => WayS w' v n Wl
        | 11 => ∃ g, v = .pointer (some ⟨g, 0, none⟩) ∧ M1 ≤ g ∧ Row w' g 33 .u8 (fill 16 [])
        | _ => v = .bool true)
      (Apt 11)
      [[], [(0, some 32)], [], [], [], [], [(1, some 33), (2, some 34), (3, some 35), (4, some 36), (5, some 37)], [(6, some 38)], [(7, some 31)], [(7, some 31)], [(7, some 31)], []]
      [[(7, some 31)], [(7, some 31)]]
      [(0, some 32), (1, some 33), (2, some 34), (3, some 35), (4, some 36), (5, some 37), (6, some 38), (7, some 31), (8, some 39), (9, some 40), (10, some 41), (11, some 15)]
      (by kernel_rfl) (by kernel_rfl) (by kernel_rfl) (by kernel_rfl) (by kernel_rfl) (by kernel_rfl) (by kernel_rfl) (by decide) (by decide) (fun w1 w2 h hb => ⟨h.1.keep hb, h.2.1.keep hb, h.2.2.1.keep hb, h.2.2.2.1.keep hb, Nat.le_trans h.2.2.2.2.1 hb.size, h.2.2.2.2.2.trans (hb.mono (Nat.le_of_lt h.1.lt))⟩) (fun c a w d v h => by cases d <;> exact h) (Apt.symm _) ?_ ⟨P1.out.draw, R1_e.out.drew, R1_l.out.drew, Y1_6.out.drew, HM1.out, B1.out.drew⟩ ?_ ?_ ?_
    · intro ι w1 w2 v h hb
      by_cases h6 : ι = 6
      · subst h6
        exact TupS.keep h hb
      by_cases h7 : ι = 7
      · subst h7
        exact TupS.keep h hb
      by_cases h9 : ι = 9
      · subst h9
        exact WayS.keep h hb
      by_cases h11 : ι = 11
      · subst h11
        exact (by obtain ⟨g, e, h1, hg⟩ := h; exact ⟨g, e, h1, hg.keep hb⟩)
      match ι, h6, h7, h9, h11, h with
      | 0, _, _, _, _, h => exact h
      | 1, _, _, _, _, h => exact h
      | 2, _, _, _, _, h => exact h
      | 3, _, _, _, _, h => exact h
      | 4, _, _, _, _, h => exact h
      | 5, _, _, _, _, h => exact h
      | 6, g, _, _, _, h => exact absurd rfl g
      | 7, _, g, _, _, h => exact absurd rfl g
      | 8, _, _, _, _, h => exact h
      | 9, _, _, g, _, h => exact absurd rfl g
      | 10, _, _, _, _, h => exact h
      | 11, _, _, _, g, h => exact absurd rfl g
      | _ + 12, _, _, _, _, h => exact h
    · refine ⟨fun γ wx hS h => ?_, fun γ wx hS h => ?_, fun γ wx hS h => ?_, fun γ wx hS h => ?_, fun γ wx hS h => ?_, fun γ wx hS h => ?_, fun γ wx hS h => ?_, fun γ wx hS h => ?_, fun γ wx hS h => ?_, fun γ wx hS h => ?_, fun γ wx hS h => ?_, fun γ wx hS h => ?_, trivial⟩
      · refine ⟨_, rfl, Or.inl ⟨rfl, predRun_value (exec_load_blk 48 (.tmp 7) rfl (A) rfl 48 _ (0, 0) _ hS.1 Tryd.underlying48 rfl (cells48 x0_0 x0_1 x0_2)) ⟨rfl, fun j u hj hu hd => ⟨fun _ _ _ => trivial, fun e => absurd e (by decide)⟩⟩⟩⟩
      · have h0 := h
        have e0 : γ 0 = plV x0_0 x0_1 x0_2 := h0
        refine ⟨_, rfl, Or.inl ⟨rfl, predRun_call (f := 32) (args := #[plV x0_0 x0_1 x0_2]) (by simp only [putE, e0]; go_simp) ?_⟩⟩
        exact (to_any x0_0 x0_1 x0_2 wx).mono fun e w2 ⟨h1, h2⟩ => ⟨_, h1, ⟨rfl, fun j u hj hu hd => ⟨fun _ _ _ => trivial, fun e => absurd e (by decide)⟩⟩, h2⟩
      · refine ⟨_, rfl, Or.inl ⟨rfl, predRun_value (v := .int .i64 x1) (by simp only [putE]; first | rfl | (go_simp; done) | (go_simp; with_reducible rfl) | (go_simp; rfl)) ⟨rfl, fun j u hj hu hd => ⟨fun _ _ _ => trivial, fun e => absurd e (by decide)⟩⟩⟩⟩
      · refine ⟨_, rfl, Or.inl ⟨rfl, predRun_value (exec_load_blk 32 (.tmp 11) rfl (A + 1) rfl 32 _ (0, 0) _ hS.2.1 Tryd.underlying32 rfl (cells49 HX4.out)) ⟨rfl, fun j u hj hu hd => ⟨fun _ _ _ => trivial, fun e => absurd e (by decide)⟩⟩⟩⟩
      · refine ⟨_, rfl, Or.inl ⟨rfl, predRun_value (v := .int .i64 x2) (by simp only [putE]; first | rfl | (go_simp; done) | (go_simp; with_reducible rfl) | (go_simp; rfl)) ⟨rfl, fun j u hj hu hd => ⟨fun _ _ _ => trivial, fun e => absurd e (by decide)⟩⟩⟩⟩
      · refine ⟨_, rfl, Or.inl ⟨rfl, predRun_value (v := .int .i64 x3) (by simp only [putE]; first | rfl | (go_simp; done) | (go_simp; with_reducible rfl) | (go_simp; rfl)) ⟨rfl, fun j u hj hu hd => ⟨fun _ _ _ => trivial, fun e => absurd e (by decide)⟩⟩⟩⟩
      · obtain ⟨h1, h2, h3, h4, h5⟩ := h
        have e1 : γ 1 = plV x0_0 x0_1 x0_2 := h1
        have e2 : γ 2 = .int .i64 x1 := h2
        have e3 : γ 3 = dgV x4 := h3
        have e4 : γ 4 = .int .i64 x2 := h4
        have e5 : γ 5 = .int .i64 x3 := h5
        refine ⟨_, rfl, Or.inl ⟨rfl, predRun_call (f := 44) (args := #[plV x0_0 x0_1 x0_2, .int .i64 x1, dgV x4, .int .i64 x2, .int .i64 x3]) (by simp only [putE, e1, e2, e3, e4, e5]; go_simp) ?_⟩⟩
        refine (show_any x0_0 x0_1 x0_2 x1 x4 x2 x3 wx (HK.out.keep (by rw [← HA.out]; exact hS.2.2.2.2.2)) HE.out HS.out HX4.out HB4.out).mono ?_
        rintro e w2 ⟨v', h1, h2, h3, h4⟩
        rw [← HZQ.out.1, ← HZQ.out.2.1] at h1
        rw [← HZQ.out.2.2.1, ← HZQ.out.2.2.2] at h2
        obtain ⟨a, c, rfl, -⟩ := id h2
        refine ⟨_, h1, ⟨⟨a, c, rfl, h2, fun x hx => (h3 x n c (by rw [hx])).2⟩, ?_⟩, h4⟩
        intro j u hj hu hd
        refine ⟨fun ej g eg => ?_, fun e => absurd e (by decide)⟩
        subst ej
        obtain ⟨g', e', _, hr⟩ := hu
        obtain rfl : g = g' := by rw [eg] at e'; simpa using e'
        have := hr.lt
        exact tup_off fun x hx => by have := (h3 x n c (by rw [hx])).1; omega
      · have h6 := h
        have p6 : TupS wx (γ 6) z q n Wl := h6
        obtain ⟨a, c, e6, h1, h2⟩ := p6
        refine ⟨_, rfl, Or.inl ⟨rfl, predRun_value (v := .tuple #[dgV z, .slice a n c, .int .i64 q]) (by simp only [putE, e6]; first | rfl | (go_simp; done) | (go_simp; rfl)) ⟨⟨a, c, rfl, h1, h2⟩, fun j u hj hu hd => ⟨fun ej g eg => ?_, fun e => absurd e (by decide)⟩⟩⟩⟩
        have h9 := (hd (6, some 38) (by simp) (by rw [ej]; decide)).1 ej g eg
        rw [e6] at h9
        exact h9
      · have h7 := h
        have p7 : TupS wx (γ 7) z q n Wl := h7
        obtain ⟨a, c, e7, h1, h2⟩ := p7
        refine ⟨_, rfl, Or.inl ⟨rfl, predRun_value (v := dgV z) (by simp only [putE, e7]; first | rfl | (go_simp; done) | (go_simp; rfl)) ⟨rfl, fun j u hj hu hd => ⟨fun _ _ _ => trivial, fun e => absurd e (by decide)⟩⟩⟩⟩
      · have h7 := h
        have p7 : TupS wx (γ 7) z q n Wl := h7
        obtain ⟨a, c, e7, h1, h2⟩ := p7
        refine ⟨_, rfl, Or.inl ⟨rfl, predRun_value (v := .slice a n c) (by simp only [putE, e7]; first | rfl | (go_simp; done) | (go_simp; rfl)) ⟨⟨a, c, rfl, h1, h2⟩, fun j u hj hu hd => ⟨fun ej g eg => ?_, fun e => absurd e (by decide)⟩⟩⟩⟩
        have h9 := (hd (7, some 31) (by simp) (by rw [ej]; decide)).1 ej g eg
        rw [e7] at h9
        exact tup_slice h9
      · have h7 := h
        have p7 : TupS wx (γ 7) z q n Wl := h7
        obtain ⟨a, c, e7, h1, h2⟩ := p7
        refine ⟨_, rfl, Or.inl ⟨rfl, predRun_value (v := .int .i64 q) (by simp only [putE, e7]; first | rfl | (go_simp; done) | (go_simp; rfl)) ⟨rfl, fun j u hj hu hd => ⟨fun _ _ _ => trivial, fun e => absurd e (by decide)⟩⟩⟩⟩
      · refine ⟨_, rfl, Or.inl ⟨rfl, predRun_new (w' := wx.alloc z50) (v := .pointer (some ⟨wx.heap.size, 0, none⟩)) (by simp only [putE]; first | rfl | (go_simp; done) | (go_simp; rfl)) (more (Below.refl _ _) _) ⟨⟨_, rfl, hS.2.2.2.2.1, Blk.new _ _⟩, ?_⟩⟩⟩
        refine fun j u hj hu hd => ⟨fun e => absurd e hj, fun _ g eg => ?_⟩
        obtain rfl : wx.heap.size = g := by simpa using eg
        exact match j, hu with
          | 0, hu => by rw [show u = plV x0_0 x0_1 x0_2 from hu]; trivial
          | 1, hu => by rw [show u = plV x0_0 x0_1 x0_2 from hu]; trivial
          | 2, hu => by rw [show u = .int .i64 x1 from hu]; trivial
          | 3, hu => by rw [show u = dgV x4 from hu]; trivial
          | 4, hu => by rw [show u = .int .i64 x2 from hu]; trivial
          | 5, hu => by rw [show u = .int .i64 x3 from hu]; trivial
          | 6, hu => TupS.off hu
          | 7, hu => TupS.off hu
          | 8, hu => by rw [show u = dgV z from hu]; trivial
          | 9, hu => WayS.off hu
          | 10, hu => by rw [show u = .int .i64 q from hu]; trivial
          | 11, hu => absurd rfl hj
          | _ + 12, hu => by rw [show u = .bool true from hu]; trivial
    · refine ⟨fun γ wx hS h => ?_, fun γ wx hS h => ?_, trivial⟩
      · have h7 := h
        have p7 : TupS wx (γ 7) z q n Wl := h7
        obtain ⟨a, c, e7, h1, h2⟩ := p7
        refine ⟨_, .slice a n c, rfl, Or.inl ⟨rfl, fun wz => by simp only [putE, e7]; first | rfl | (go_simp; done) | (go_simp; rfl)⟩, ⟨a, c, rfl, h1, h2⟩, fun j u hj hu hd => ⟨fun ej g eg => ?_, fun e => absurd e (by decide)⟩⟩
        have h9 := (hd (7, some 31) (by simp) (by rw [ej]; decide)).1 ej g eg
        rw [e7] at h9
        exact tup_slice h9
      · have h7 := h
        have p7 : TupS wx (γ 7) z q n Wl := h7
        obtain ⟨a, c, e7, h1, h2⟩ := p7
        refine ⟨_, .int .i64 q, rfl, Or.inl ⟨rfl, fun wz => by simp only [putE, e7]; first | rfl | (go_simp; done) | (go_simp; rfl)⟩, rfl, fun j u hj hu hd => ⟨fun _ _ _ => trivial, fun e => absurd e (by decide)⟩⟩
    · intro γ w9 hS h hT
      have ez : γ 8 = dgV z := h.2.2.2.2.2.2.2.2.1
      have e10 : γ 10 = .int .i64 q := h.2.2.2.2.2.2.2.2.2.2.1
      obtain ⟨a, c, ew, pw⟩ : WayS w9 (γ 9) n Wl := h.2.2.2.2.2.2.2.2.2.1
      obtain ⟨g1, ep, hMg, hg⟩ : ∃ g, γ 11 = .pointer (some ⟨g, 0, none⟩) ∧ M1 ≤ g ∧ Row w9 g 33 .u8 (fill 16 []) := h.2.2.2.2.2.2.2.2.2.2.2
      have hoff := (hT 9 (by decide) 11 (by decide) (by decide)).1 rfl g1 ep
      rw [ew] at hoff
      simp only [putE, Act.put, List.setIfInBounds_toArray, List.set_cons_zero, List.set_cons_succ]
      rw [ez, ep, e10, ew]
      have HGA : Kp (Row w9 g1 33 .u8 (fill 16 [])) := ⟨hg⟩
      obtain ⟨W2, hW9⟩ : ∃ W, W = w9.setRow g1 (kv .u8 z).toArray := ⟨_, rfl⟩
      have P2 : Kp (Blk W2 A (.cells #[.int .i64 x0_0, .int .u32 x0_1, .int .u32 x0_2] 48)) := ⟨by rw [hW9]; exact (setRow_other _ g1 A _ (by omega)).trans hS.1⟩
      have R2_e : Kp (Row W2 (A + 1) 32 .u8 x4) := ⟨by rw [hW9]; exact Row.otherRow hS.2.1 (by omega) _⟩
      have R2_l : Kp (Row W2 (A + 1 + 1) 32 .u8 x5) := ⟨by rw [hW9]; exact Row.otherRow hS.2.2.1 (by omega) _⟩
      have R2_g1 : Kp (Row W2 (g1) 33 .u8 z) := ⟨by rw [hW9]; exact HGA.out.setRow z⟩
      have Y2_6 : Kp (HoldsS W2 (.slice a6 20 cap6) 20 p6) := ⟨by rw [hW9]; exact hS.2.2.2.1.off2 (fun h0 => wayb_off (HWB1_6.out h0) (by omega)) _⟩
      have Y2_w : Kp (HoldsS W2 (.slice a n c) n Wl) := ⟨by rw [hW9]; exact pw.1.off2 (fun _ => hoff) _⟩
      have B2 : Kp (Below A w W2) := ⟨by rw [hW9]; exact Below.row hS.2.2.2.2.2 (by omega) _⟩
      have HWk := Kp.mk hW9
      clear h hS ez ep hg hW9 P1 B1 HM1 HMs1 hMg hbA1 R1_e hb1_e R1_l hb1_l e10 Y1_6 HWB1_6 hT ew pw hoff
      refine wpOps_step rfl rfl ?_
      refine wp_store_rowD rfl 33 (.tmp 15) (.tmp 39) rfl g1 (kv .u8 z).toArray rfl rfl 33 _ HGA.out (cells50 HL_z.out.1) (size50 HL_z.out.1) (kv_all _ _) ?_
      rw [← HWk.out]
      clear HWk HGA
      refine wpOps_step rfl rfl ?_
      refine wp_assign_endD (d := some 16) (v := .slice a n c) rfl rfl rfl ?_
      simp only [Act.put, List.setIfInBounds_toArray, List.set_cons_zero, List.set_cons_succ]
      refine wpOps_step rfl rfl ?_
      refine wp_assign_endD (d := some 17) (v := .int .i64 q) rfl rfl rfl ?_
      simp only [Act.put, List.setIfInBounds_toArray, List.set_cons_zero, List.set_cons_succ]
      refine wpOps_done ?_
      go_wp2_with first
        | (refine wpList_load_row rfl 48 (.tmp 7) rfl A rfl 48 _ (0, 0) _ P2.out Tryd.underlying48 rfl (cells48 x0_0 x0_1 x0_2) ?_)
        | (refine wpList_load_row rfl 32 (.tmp 11) rfl (A + 1) rfl 32 _ (0, 0) _ R2_e.out Tryd.underlying32 rfl (cells49 HX4.out) ?_)
      refine (rshow_any x0_0 x0_1 x0_2 x1 x4 x2 x3 W2 HE.out HS.out HX4.out HB4.out).mono ?_
      rintro r w10 ⟨v', rfl, k1, k2, hb⟩
      rw [← HZQ.out.2.2.1, ← HZQ.out.2.2.2] at k1
      rw [← HZQ.out.1, ← HZQ.out.2.1]
      obtain ⟨a2, c2, rfl, -⟩ := id k1
      have EY_v := Kp.mk k1
      clear k1 k2
      have E0 := Kp.mk (P2.out.keep hb)
      have E_e := Kp.mk (R2_e.out.keep hb)
      have E_l := Kp.mk (R2_l.out.keep hb)
      have E_g1 := Kp.mk (R2_g1.out.keep hb)
      have EY_6 := Kp.mk (Y2_6.out.keep hb)
      have EY_w := Kp.mk (Y2_w.out.keep hb)
      have EB : Kp (Below A w w10) := ⟨B2.out.trans (hb.mono (Nat.le_of_lt P2.out.lt))⟩
      clear hb P2 B2 R2_e R2_l R2_g1 Y2_6 Y2_w
      obtain ⟨g2, hB⟩ : ∃ B, B = w10.heap.size := ⟨_, rfl⟩
      have hbA : A < g2 := by rw [hB]; exact E0.out.lt
      have hbb_e : A + 1 < g2 := by rw [hB]; exact E_e.out.lt
      have hbb_l : A + 1 + 1 < g2 := by rw [hB]; exact E_l.out.lt
      have hbb_g1 : g1 < g2 := by rw [hB]; exact E_g1.out.lt
      obtain ⟨W3, hW⟩ : ∃ W, W = (w10.alloc z49).setRow g2 (kv .u8 z).toArray := ⟨_, rfl⟩
      have hN : Row (w10.alloc z49) g2 32 .u8 (fill 16 []) := Blk.newAt _ hB
      have P3 : Kp (Blk W3 A (.cells #[.int .i64 x0_0, .int .u32 x0_1, .int .u32 x0_2] 48)) := ⟨by rw [hW]; exact (setRow_other _ g2 A _ (by omega)).trans (Blk.old E0.out _)⟩
      have R3_e : Kp (Row W3 (A + 1) 32 .u8 x4) := ⟨by rw [hW]; exact Row.otherRow (Row.alloc E_e.out _) (by omega) _⟩
      have R3_l : Kp (Row W3 (A + 1 + 1) 32 .u8 x5) := ⟨by rw [hW]; exact Row.otherRow (Row.alloc E_l.out _) (by omega) _⟩
      have R3_g1 : Kp (Row W3 (g1) 33 .u8 z) := ⟨by rw [hW]; exact Row.otherRow (Row.alloc E_g1.out _) (by omega) _⟩
      have R3_g2 : Kp (Row W3 (g2) 32 .u8 z) := ⟨by rw [hW]; exact Row.setRow (k := .u8) (l := fill 16 []) hN _⟩
      have Y3_6 : Kp (HoldsS W3 (.slice a6 20 cap6) 20 p6) := ⟨by rw [hW]; exact (HoldsS.keep EY_6.out (more (Below.refl _ _) _)).off2 (fun h0 => slice_off fun x hx => by have := EY_6.out.lt h0 x hx; omega) _⟩
      have Y3_w : Kp (HoldsS W3 (.slice a n c) n Wl) := ⟨by rw [hW]; exact (HoldsS.keep EY_w.out (more (Below.refl _ _) _)).off2 (fun h0 => slice_off fun x hx => by have := EY_w.out.lt h0 x hx; omega) _⟩
      have Y3_v : Kp (HoldsS W3 (.slice a2 n c2) n Wl) := ⟨by rw [hW]; exact (HoldsS.keep EY_v.out (more (Below.refl _ _) _)).off2 (fun h0 => slice_off fun x hx => by have := EY_v.out.lt h0 x hx; omega) _⟩
      have B3 : Kp (Below A w W3) := ⟨by rw [hW]; exact Below.row (EB.out.alloc (by have := E0.out.lt; omega) _) (by omega) _⟩
      have HBe := Kp.mk hB
      have hW2 : W3 = (w10.alloc z49).setRow w10.heap.size (kv .u8 z).toArray := by rw [hW, hB]
      clear hN hW hB E0 EB hbA E_e E_l E_g1 hbb_e hbb_l hbb_g1 EY_6 EY_w EY_v
      go_wp2_with (refine wpList_store_row rfl 32 (.tmp 18) (.tmp 49) rfl w10.heap.size (kv .u8 z).toArray rfl rfl 32 _ (Blk.new w10 z49) (cells49 HL_z.out.1) (size50 HL_z.out.1) (kv_all _ _) ?_; refine wpl_world (· = W3) hW2.symm ?_; clear hW2; intro W0 e0; rw [e0]; clear e0)
      rw [← HBe.out]
      clear HBe
      obtain ⟨M3, hM⟩ : ∃ M, M = W3.heap.size := ⟨_, rfl⟩
      have hbA3 : A < M3 := by rw [hM]; exact P3.out.lt
      have hb3_e : A + 1 < M3 := by rw [hM]; exact R3_e.out.lt
      have hb3_l : A + 1 + 1 < M3 := by rw [hM]; exact R3_l.out.lt
      have hb3_g1 : g1 < M3 := by rw [hM]; exact R3_g1.out.lt
      have hb3_g2 : g2 < M3 := by rw [hM]; exact R3_g2.out.lt
      have HM3 : Kp (M3 ≤ W3.heap.size) := ⟨Nat.le_of_eq hM⟩
      have HMs3 : Kp (W3.heap.size ≤ M3) := ⟨Nat.le_of_eq hM.symm⟩
      have HWB3_6 : Kp (0 < 20 → ∀ x, a6 = some x → x.block < M3) := ⟨fun h0 x hx => Nat.lt_of_lt_of_le (Y3_6.out.lt h0 x hx) HMs3.out⟩
      have HWB3_w : Kp (0 < n → ∀ x, a = some x → x.block < M3) := ⟨fun h0 x hx => Nat.lt_of_lt_of_le (Y3_w.out.lt h0 x hx) HMs3.out⟩
      have HWB3_v : Kp (0 < n → ∀ x, a2 = some x → x.block < M3) := ⟨fun h0 x hx => Nat.lt_of_lt_of_le (Y3_v.out.lt h0 x hx) HMs3.out⟩
      clear hM
      go_wp2_with fail
      refine wp_region_predQ (fun w' => Blk w' A (.cells #[.int .i64 x0_0, .int .u32 x0_1, .int .u32 x0_2] 48) ∧ Row w' (A + 1) 32 .u8 x4 ∧ Row w' (A + 1 + 1) 32 .u8 x5 ∧ Row w' (g1) 33 .u8 z ∧ Row w' (g2) 32 .u8 z ∧ HoldsS w' (.slice a6 20 cap6) 20 p6 ∧ HoldsS w' (.slice a n c) n Wl ∧ HoldsS w' (.slice a2 n c2) n Wl ∧ M3 ≤ w'.heap.size ∧ Below A w w') [0, 1, 2, 3, 4, 5, 6, 7, 8, 9, 10, 11, 12] [11] [13, 14]
        (fun ι w' v => match ι with
          | 0 | 1 => v = plV x0_0 x0_1 x0_2
          | 2 => v = .int .i64 x1
          | 3 => v = .int .i64 x2
          | 4 => v = .int .i64 x3
          | 5 => v = dgV x5
          | 6 => v = .slice a6 20 cap6
          | 8 | 9 => v = .tuple #[dgV u, .int .i64 q5]
          | 10 => v = dgV u
          | 11 => v = .int .i64 q5
          | 7 => HoldsS w' v 20 p6
          | 12 => ∃ g, v = .pointer (some ⟨g, 0, none⟩) ∧ M3 ≤ g ∧ Row w' g 33 .u8 (fill 16 [])
          | _ => v = .bool true)
        [[], [(0, some 53)], [], [], [], [], [], [(1, some 54), (6, some 59)], [(1, some 54), (2, some 55), (3, some 56), (4, some 57), (5, some 58), (7, some 60)], [(8, some 61)], [(9, some 52)], [(9, some 52)], []]
        [[(9, some 52)]]
        [(0, some 53), (1, some 54), (2, some 55), (3, some 56), (4, some 57), (5, some 58), (6, some 59), (7, some 60), (8, some 61), (9, some 52), (10, some 62), (11, some 63), (12, some 21)]
        (by kernel_rfl) (by kernel_rfl) (by kernel_rfl) (by kernel_rfl) (by kernel_rfl) (by kernel_rfl) (by kernel_rfl) (by decide) (by decide) (fun w1 w2 h hb => ⟨h.1.keep hb, h.2.1.keep hb, h.2.2.1.keep hb, h.2.2.2.1.keep hb, h.2.2.2.2.1.keep hb, h.2.2.2.2.2.1.keep hb, h.2.2.2.2.2.2.1.keep hb, h.2.2.2.2.2.2.2.1.keep hb, Nat.le_trans h.2.2.2.2.2.2.2.2.1 hb.size, h.2.2.2.2.2.2.2.2.2.trans (hb.mono (Nat.le_of_lt h.1.lt))⟩) (fun c a w d v h => by cases d <;> exact h) ?_ ⟨P3.out.draw, R3_e.out.drew, R3_l.out.drew, R3_g1.out.drew, R3_g2.out.drew, Y3_6.out.drew, Y3_w.out.drew, Y3_v.out.drew, HM3.out, B3.out.drew⟩ ?_ ?_ ?_
      · intro ι w1 w2 v h hb
        by_cases h7 : ι = 7
        · subst h7
          exact HoldsS.keep h hb
        by_cases h12 : ι = 12
        · subst h12
          exact (by obtain ⟨g, e, h1, hg⟩ := h; exact ⟨g, e, h1, hg.keep hb⟩)
        match ι, h7, h12, h with
        | 0, _, _, h => exact h
        | 1, _, _, h => exact h
        | 2, _, _, h => exact h
        | 3, _, _, h => exact h
        | 4, _, _, h => exact h
        | 5, _, _, h => exact h
        | 6, _, _, h => exact h
        | 7, g, _, h => exact absurd rfl g
        | 8, _, _, h => exact h
        | 9, _, _, h => exact h
        | 10, _, _, h => exact h
        | 11, _, _, h => exact h
        | 12, _, g, h => exact absurd rfl g
        | _ + 13, _, _, h => exact h
      · refine ⟨fun γ wx hS h => ?_, fun γ wx hS h => ?_, fun γ wx hS h => ?_, fun γ wx hS h => ?_, fun γ wx hS h => ?_, fun γ wx hS h => ?_, fun γ wx hS h => ?_, fun γ wx hS h => ?_, fun γ wx hS h => ?_, fun γ wx hS h => ?_, fun γ wx hS h => ?_, fun γ wx hS h => ?_, fun γ wx hS h => ?_, trivial⟩
        · refine ⟨_, rfl, Or.inl ⟨rfl, predRun_value (exec_load_blk 48 (.tmp 7) rfl (A) rfl 48 _ (0, 0) _ hS.1 Tryd.underlying48 rfl (cells48 x0_0 x0_1 x0_2)) rfl⟩⟩
        · have h0 := h
          have e0 : γ 0 = plV x0_0 x0_1 x0_2 := h0
          refine ⟨_, rfl, Or.inl ⟨rfl, predRun_call (f := 32) (args := #[plV x0_0 x0_1 x0_2]) (by simp only [putE, e0]; go_simp) ?_⟩⟩
          exact (to_any x0_0 x0_1 x0_2 wx).mono fun e w2 ⟨h1, h2⟩ => ⟨_, h1, rfl, h2⟩
        · refine ⟨_, rfl, Or.inl ⟨rfl, predRun_value (v := .int .i64 x1) (by simp only [putE]; first | rfl | (go_simp; done) | (go_simp; with_reducible rfl) | (go_simp; rfl)) rfl⟩⟩
        · refine ⟨_, rfl, Or.inl ⟨rfl, predRun_value (v := .int .i64 x2) (by simp only [putE]; first | rfl | (go_simp; done) | (go_simp; with_reducible rfl) | (go_simp; rfl)) rfl⟩⟩
        · refine ⟨_, rfl, Or.inl ⟨rfl, predRun_value (v := .int .i64 x3) (by simp only [putE]; first | rfl | (go_simp; done) | (go_simp; with_reducible rfl) | (go_simp; rfl)) rfl⟩⟩
        · refine ⟨_, rfl, Or.inl ⟨rfl, predRun_value (exec_load_blk 32 (.tmp 12) rfl (A + 1 + 1) rfl 32 _ (0, 0) _ hS.2.2.1 Tryd.underlying32 rfl (cells49 HX5.out)) rfl⟩⟩
        · refine ⟨_, rfl, Or.inl ⟨rfl, predRun_value (v := .slice a6 20 cap6) (by simp only [putE]; first | rfl | (go_simp; done) | (go_simp; with_reducible rfl) | (go_simp; rfl)) rfl⟩⟩
        · obtain ⟨h1, h6⟩ := h
          have e1 : γ 1 = plV x0_0 x0_1 x0_2 := h1
          have e6 : γ 6 = .slice a6 20 cap6 := h6
          refine ⟨_, rfl, Or.inl ⟨rfl, predRun_call (f := 47) (args := #[.slice a6 20 cap6]) (by simp only [putE, e1, e6]; go_simp) ?_⟩⟩
          refine (toS_any _ 20 p6 wx hS.2.2.2.2.2.1 (by omega)).mono ?_
          rintro e w2 ⟨v', h1, h2, h3⟩
          exact ⟨v', h1, HoldsS.ofRow HP6.out.2 (by unfold maxLen; omega) HP6.out.1 h2, h3⟩
        · obtain ⟨h1, h2, h3, h4, h5, h7⟩ := h
          have e1 : γ 1 = plV x0_0 x0_1 x0_2 := h1
          have e2 : γ 2 = .int .i64 x1 := h2
          have e3 : γ 3 = .int .i64 x2 := h3
          have e4 : γ 4 = .int .i64 x3 := h4
          have e5 : γ 5 = dgV x5 := h5
          have p7 : HoldsS wx (γ 7) 20 p6 := h7
          obtain ⟨a7, c7, e7, -⟩ := id p7
          refine ⟨_, rfl, Or.inl ⟨rfl, predRun_call (f := 46) (args := #[plV x0_0 x0_1 x0_2, .int .i64 x1, .int .i64 x2, .int .i64 x3, dgV x5, .slice a7 20 c7]) (by simp only [putE, e1, e2, e3, e4, e5, e7]; go_simp) ?_⟩⟩
          rw [e7] at p7
          exact (rise_any x0_0 x0_1 x0_2 x1 x2 x3 x5 a7 20 c7 p6 wx (HK.out.keep (by rw [← HA.out]; exact hS.2.2.2.2.2.2.2.2.2)) HE.out HS.out HX5.out HB5.out p7).mono fun e w2 ⟨h1, h2⟩ => ⟨_, h1, by show Value.tuple _ = Value.tuple _; rw [HUQ.out.1, HUQ.out.2], h2⟩
        · have h8 := h
          have e8 : γ 8 = .tuple #[dgV u, .int .i64 q5] := h8
          refine ⟨_, rfl, Or.inl ⟨rfl, predRun_value (v := .tuple #[dgV u, .int .i64 q5]) (by simp only [putE, e8]; first | rfl | (go_simp; done) | (go_simp; with_reducible rfl) | (go_simp; rfl)) rfl⟩⟩
        · have h9 := h
          have e9 : γ 9 = .tuple #[dgV u, .int .i64 q5] := h9
          refine ⟨_, rfl, Or.inl ⟨rfl, predRun_value (v := dgV u) (by simp only [putE, e9]; first | rfl | (go_simp; done) | (go_simp; with_reducible rfl) | (go_simp; rfl)) rfl⟩⟩
        · have h9 := h
          have e9 : γ 9 = .tuple #[dgV u, .int .i64 q5] := h9
          refine ⟨_, rfl, Or.inl ⟨rfl, predRun_value (v := .int .i64 q5) (by simp only [putE, e9]; first | rfl | (go_simp; done) | (go_simp; with_reducible rfl) | (go_simp; rfl)) rfl⟩⟩
        · refine ⟨_, rfl, Or.inl ⟨rfl, predRun_new (w' := wx.alloc z50) (v := .pointer (some ⟨wx.heap.size, 0, none⟩)) (by simp only [putE]; first | rfl | (go_simp; done) | (go_simp; rfl)) (more (Below.refl _ _) _) ⟨_, rfl, hS.2.2.2.2.2.2.2.2.1, Blk.new _ _⟩⟩⟩
      · refine ⟨fun γ wx hS h => ?_, trivial⟩
        · have h9 := h
          have e9 : γ 9 = .tuple #[dgV u, .int .i64 q5] := h9
          refine ⟨_, .int .i64 q5, rfl, Or.inl ⟨rfl, fun wz => by simp only [putE, e9]; first | rfl | (go_simp; done) | (go_simp; rfl)⟩, rfl⟩
      · intro γ w9 hS h
        have ez : γ 10 = dgV u := h.2.2.2.2.2.2.2.2.2.2.1
        have e11 : γ 11 = .int .i64 q5 := h.2.2.2.2.2.2.2.2.2.2.2.1
        obtain ⟨g5, ep, hMg, hg⟩ : ∃ g, γ 12 = .pointer (some ⟨g, 0, none⟩) ∧ M3 ≤ g ∧ Row w9 g 33 .u8 (fill 16 []) := h.2.2.2.2.2.2.2.2.2.2.2.2
        simp only [putE, Act.put, List.setIfInBounds_toArray, List.set_cons_zero, List.set_cons_succ]
        rw [ez, ep, e11]
        have HGA : Kp (Row w9 g5 33 .u8 (fill 16 [])) := ⟨hg⟩
        obtain ⟨W4, hW9⟩ : ∃ W, W = w9.setRow g5 (kv .u8 u).toArray := ⟨_, rfl⟩
        have P4 : Kp (Blk W4 A (.cells #[.int .i64 x0_0, .int .u32 x0_1, .int .u32 x0_2] 48)) := ⟨by rw [hW9]; exact (setRow_other _ g5 A _ (by omega)).trans hS.1⟩
        have R4_e : Kp (Row W4 (A + 1) 32 .u8 x4) := ⟨by rw [hW9]; exact Row.otherRow hS.2.1 (by omega) _⟩
        have R4_l : Kp (Row W4 (A + 1 + 1) 32 .u8 x5) := ⟨by rw [hW9]; exact Row.otherRow hS.2.2.1 (by omega) _⟩
        have R4_g1 : Kp (Row W4 (g1) 33 .u8 z) := ⟨by rw [hW9]; exact Row.otherRow hS.2.2.2.1 (by omega) _⟩
        have R4_g2 : Kp (Row W4 (g2) 32 .u8 z) := ⟨by rw [hW9]; exact Row.otherRow hS.2.2.2.2.1 (by omega) _⟩
        have R4_g5 : Kp (Row W4 (g5) 33 .u8 u) := ⟨by rw [hW9]; exact HGA.out.setRow u⟩
        have Y4_6 : Kp (HoldsS W4 (.slice a6 20 cap6) 20 p6) := ⟨by rw [hW9]; exact hS.2.2.2.2.2.1.off2 (fun h0 => wayb_off (HWB3_6.out h0) (by omega)) _⟩
        have Y4_w : Kp (HoldsS W4 (.slice a n c) n Wl) := ⟨by rw [hW9]; exact hS.2.2.2.2.2.2.1.off2 (fun h0 => wayb_off (HWB3_w.out h0) (by omega)) _⟩
        have Y4_v : Kp (HoldsS W4 (.slice a2 n c2) n Wl) := ⟨by rw [hW9]; exact hS.2.2.2.2.2.2.2.1.off2 (fun h0 => wayb_off (HWB3_v.out h0) (by omega)) _⟩
        have B4 : Kp (Below A w W4) := ⟨by rw [hW9]; exact Below.row hS.2.2.2.2.2.2.2.2.2 (by omega) _⟩
        have HWk := Kp.mk hW9
        clear h hS ez ep hg hW9 P3 B3 HM3 HMs3 hMg hbA3 R3_e hb3_e R3_l hb3_l R3_g1 hb3_g1 R3_g2 hb3_g2 e11 Y3_6 HWB3_6 Y3_w HWB3_w Y3_v HWB3_v
        refine wpOps_step rfl rfl ?_
        refine wp_store_rowD rfl 33 (.tmp 21) (.tmp 62) rfl g5 (kv .u8 u).toArray rfl rfl 33 _ HGA.out (cells50 HL_u.out.1) (size50 HL_u.out.1) (kv_all _ _) ?_
        rw [← HWk.out]
        clear HWk HGA
        refine wpOps_step rfl rfl ?_
        refine wp_assign_endD (d := some 22) (v := .int .i64 q5) rfl rfl rfl ?_
        simp only [Act.put, List.setIfInBounds_toArray, List.set_cons_zero, List.set_cons_succ]
        refine wpOps_done ?_
        go_wp2_with first
          | (refine wpList_load_row rfl 48 (.tmp 7) rfl A rfl 48 _ (0, 0) _ P4.out Tryd.underlying48 rfl (cells48 x0_0 x0_1 x0_2) ?_)
          | (refine wpList_load_row rfl 32 (.tmp 12) rfl (A + 1 + 1) rfl 32 _ (0, 0) _ R4_l.out Tryd.underlying32 rfl (cells49 HX5.out) ?_)
        refine (rrise_any x0_0 x0_1 x0_2 x1 x2 x3 x5 a6 20 cap6 p6 W4 HE.out HS.out HX5.out HB5.out Y4_6.out).mono ?_
        rintro r w10 ⟨v5, rfl, -, -, hb⟩
        rw [← HUQ.out.1, ← HUQ.out.2]
        have E0 := Kp.mk (P4.out.keep hb)
        have E_e := Kp.mk (R4_e.out.keep hb)
        have E_l := Kp.mk (R4_l.out.keep hb)
        have E_g1 := Kp.mk (R4_g1.out.keep hb)
        have E_g2 := Kp.mk (R4_g2.out.keep hb)
        have E_g5 := Kp.mk (R4_g5.out.keep hb)
        have EY_6 := Kp.mk (Y4_6.out.keep hb)
        have EY_w := Kp.mk (Y4_w.out.keep hb)
        have EY_v := Kp.mk (Y4_v.out.keep hb)
        have EB : Kp (Below A w w10) := ⟨B4.out.trans (hb.mono (Nat.le_of_lt P4.out.lt))⟩
        clear hb P4 B4 R4_e R4_l R4_g1 R4_g2 R4_g5 Y4_6 Y4_w Y4_v
        obtain ⟨g6, hB⟩ : ∃ B, B = w10.heap.size := ⟨_, rfl⟩
        have hbA : A < g6 := by rw [hB]; exact E0.out.lt
        have hbb_e : A + 1 < g6 := by rw [hB]; exact E_e.out.lt
        have hbb_l : A + 1 + 1 < g6 := by rw [hB]; exact E_l.out.lt
        have hbb_g1 : g1 < g6 := by rw [hB]; exact E_g1.out.lt
        have hbb_g2 : g2 < g6 := by rw [hB]; exact E_g2.out.lt
        have hbb_g5 : g5 < g6 := by rw [hB]; exact E_g5.out.lt
        obtain ⟨W5, hW⟩ : ∃ W, W = (w10.alloc z49).setRow g6 (kv .u8 u).toArray := ⟨_, rfl⟩
        have hN : Row (w10.alloc z49) g6 32 .u8 (fill 16 []) := Blk.newAt _ hB
        have P5 : Kp (Blk W5 A (.cells #[.int .i64 x0_0, .int .u32 x0_1, .int .u32 x0_2] 48)) := ⟨by rw [hW]; exact (setRow_other _ g6 A _ (by omega)).trans (Blk.old E0.out _)⟩
        have R5_e : Kp (Row W5 (A + 1) 32 .u8 x4) := ⟨by rw [hW]; exact Row.otherRow (Row.alloc E_e.out _) (by omega) _⟩
        have R5_l : Kp (Row W5 (A + 1 + 1) 32 .u8 x5) := ⟨by rw [hW]; exact Row.otherRow (Row.alloc E_l.out _) (by omega) _⟩
        have R5_g1 : Kp (Row W5 (g1) 33 .u8 z) := ⟨by rw [hW]; exact Row.otherRow (Row.alloc E_g1.out _) (by omega) _⟩
        have R5_g2 : Kp (Row W5 (g2) 32 .u8 z) := ⟨by rw [hW]; exact Row.otherRow (Row.alloc E_g2.out _) (by omega) _⟩
        have R5_g5 : Kp (Row W5 (g5) 33 .u8 u) := ⟨by rw [hW]; exact Row.otherRow (Row.alloc E_g5.out _) (by omega) _⟩
        have R5_g6 : Kp (Row W5 (g6) 32 .u8 u) := ⟨by rw [hW]; exact Row.setRow (k := .u8) (l := fill 16 []) hN _⟩
        have Y5_6 : Kp (HoldsS W5 (.slice a6 20 cap6) 20 p6) := ⟨by rw [hW]; exact (HoldsS.keep EY_6.out (more (Below.refl _ _) _)).off2 (fun h0 => slice_off fun x hx => by have := EY_6.out.lt h0 x hx; omega) _⟩
        have Y5_w : Kp (HoldsS W5 (.slice a n c) n Wl) := ⟨by rw [hW]; exact (HoldsS.keep EY_w.out (more (Below.refl _ _) _)).off2 (fun h0 => slice_off fun x hx => by have := EY_w.out.lt h0 x hx; omega) _⟩
        have Y5_v : Kp (HoldsS W5 (.slice a2 n c2) n Wl) := ⟨by rw [hW]; exact (HoldsS.keep EY_v.out (more (Below.refl _ _) _)).off2 (fun h0 => slice_off fun x hx => by have := EY_v.out.lt h0 x hx; omega) _⟩
        have B5 : Kp (Below A w W5) := ⟨by rw [hW]; exact Below.row (EB.out.alloc (by have := E0.out.lt; omega) _) (by omega) _⟩
        have HBe := Kp.mk hB
        have hW2 : W5 = (w10.alloc z49).setRow w10.heap.size (kv .u8 u).toArray := by rw [hW, hB]
        clear hN hW hB E0 EB hbA E_e E_l E_g1 E_g2 E_g5 hbb_e hbb_l hbb_g1 hbb_g2 hbb_g5 EY_6 EY_w EY_v
        go_wp2_with (refine wpList_store_row rfl 32 (.tmp 23) (.tmp 72) rfl w10.heap.size (kv .u8 u).toArray rfl rfl 32 _ (Blk.new w10 z49) (cells49 HL_u.out.1) (size50 HL_u.out.1) (kv_all _ _) ?_; refine wpl_world (· = W5) hW2.symm ?_; clear hW2; intro W0 e0; rw [e0]; clear e0)
        rw [← HBe.out]
        clear HBe
        refine (awake6 W5 (HK.out.keep (by rw [← HA.out]; exact B5.out))).mono ?_
        rintro r w5 ⟨rfl, hb⟩
        have P9 := Kp.mk (P5.out.keep hb)
        have Y9_w := Kp.mk (Y5_w.out.keep hb)
        have Y9_v := Kp.mk (Y5_v.out.keep hb)
        have R9_g1 := Kp.mk (R5_g1.out.keep hb)
        have R9_g2 := Kp.mk (R5_g2.out.keep hb)
        have R9_g5 := Kp.mk (R5_g5.out.keep hb)
        have R9_g6 := Kp.mk (R5_g6.out.keep hb)
        have B9 : Kp (Below A w w5) := ⟨B5.out.trans (hb.mono (Nat.le_of_lt P5.out.lt))⟩
        clear hb P5 B5 R5_e R5_l R5_g1 R5_g2 R5_g5 R5_g6 Y5_6 Y5_w Y5_v
        have tq : (q == q) = true := by simp
        have hq : ∀ w, (binOp .eql 33 (dgV z) (dgV z)).run Tryd.prog w = .ok (.bool true) w := fun w => eql50 (p := z) HL_z.out.2 HL_z.out.1 w
        have hg := eqg50
        go_wp2_with first
          | (refine wpList_load_rowG rfl 33 (.tmp 15) rfl g1 rfl 33 _ (0, 0) _ R9_g1.out Tryd.underlying33 rfl (cells50 HL_z.out.1) ?_)
          | (refine wpList_load_rowG rfl 32 (.tmp 18) rfl g2 rfl 32 _ (0, 0) _ R9_g2.out Tryd.underlying32 rfl (cells49 HL_z.out.1) ?_)
        clear tq hq hg
        refine (fromS_any _ n Wl w5 Y9_w.out HN3.out).mono ?_
        rintro r w6 ⟨v6, rfl, k1, hb⟩
        have Y6 : Kp (HoldsS w6 v6 n Wl) := ⟨HoldsS.ofRow HWl.out.2 (by have := HN3.out; unfold maxLen; omega) HWl.out.1 k1⟩
        have Y6v := Kp.mk (Y9_v.out.keep hb)
        have R6_g5 := Kp.mk (R9_g5.out.keep hb)
        have R6_g6 := Kp.mk (R9_g6.out.keep hb)
        have B6 : Kp (Below A w w6) := ⟨B9.out.trans (hb.mono (Nat.le_of_lt P9.out.lt))⟩
        have HA6 : Kp (A ≤ w6.heap.size) := ⟨by have := P9.out.lt; have := hb.size; omega⟩
        clear k1 hb R9_g1 R9_g2 R9_g5 R9_g6 Y9_w Y9_v B9
        go_wp2_with fail
        refine (sames_any v6 (.slice a2 n c2) n n Wl Wl w6 Y6.out Y6v.out HN3.out HN3.out).mono ?_
        rintro r w7 ⟨rfl, hb⟩
        rw [show decide (n = n ∧ Wl = Wl) = true by simp]
        have R7_g5 := Kp.mk (R6_g5.out.keep hb)
        have R7_g6 := Kp.mk (R6_g6.out.keep hb)
        have B7 : Kp (Below A w w7) := ⟨B6.out.trans (hb.mono HA6.out)⟩
        clear hb R6_g5 R6_g6 B6 Y6 Y6v
        have tq : (q5 == q5) = true := by simp
        have hq : ∀ w, (binOp .eql 33 (dgV u) (dgV u)).run Tryd.prog w = .ok (.bool true) w := fun w => eql50 (p := u) HL_u.out.2 HL_u.out.1 w
        have hg := eqg50
        go_wp2_with first
          | (refine wpList_load_rowG rfl 33 (.tmp 21) rfl g5 rfl 33 _ (0, 0) _ R7_g5.out Tryd.underlying33 rfl (cells50 HL_u.out.1) ?_)
          | (refine wpList_load_rowG rfl 32 (.tmp 23) rfl g6 rfl 32 _ (0, 0) _ R7_g6.out Tryd.underlying32 rfl (cells49 HL_u.out.1) ?_)
        clear tq hq hg
        go_ret
        exact ⟨rfl, by rw [← HA.out]; exact B7.out⟩
  · have hn7 : n6 = len6 := by rw [HN6.out]; unfold cutN; rw [if_neg hcut]
    subst hn7
    go_wp2_with fail
    rw [← hA]
    refine wp_world (fun W => Blk W A (.cells #[.int .i64 x0_0, .int .u32 x0_1, .int .u32 x0_2] 48) ∧ Row W (A + 1) 32 .u8 x4 ∧ Row W (A + 1 + 1) 32 .u8 x5 ∧ Below A w W) ⟨Blk.old (Blk.old (Blk.newAt _ hA) _) _, Blk.old (Blk.newAt _ (by simp [hA])) _, Blk.newAt _ (by simp [hA]), by rw [hA]; exact more (more (more (Below.refl _ _) _) _) _⟩ ?_
    clear hA
    rintro W1 ⟨g1, g2, g3, g4⟩
    have P1 := Kp.mk g1
    have R1_e := Kp.mk g2
    have R1_l := Kp.mk g3
    have B1 := Kp.mk g4
    have Y1_6 : Kp (HoldsS W1 (.slice a6 n6 cap6) n6 p6) := ⟨HR7.out.keep (by rw [← HA.out]; exact g4)⟩
    clear g1 g2 g3 g4
    obtain ⟨M1, hM⟩ : ∃ M, M = W1.heap.size := ⟨_, rfl⟩
    have hbA1 : A < M1 := by rw [hM]; exact P1.out.lt
    have hb1_e : A + 1 < M1 := by rw [hM]; exact R1_e.out.lt
    have hb1_l : A + 1 + 1 < M1 := by rw [hM]; exact R1_l.out.lt
    have HM1 : Kp (M1 ≤ W1.heap.size) := ⟨Nat.le_of_eq hM⟩
    have HMs1 : Kp (W1.heap.size ≤ M1) := ⟨Nat.le_of_eq hM.symm⟩
    have HWB1_6 : Kp (0 < n6 → ∀ x, a6 = some x → x.block < M1) := ⟨fun h0 x hx => Nat.lt_of_lt_of_le (Y1_6.out.lt h0 x hx) HMs1.out⟩
    clear hM
    refine wp_region_predR (fun w' => Blk w' A (.cells #[.int .i64 x0_0, .int .u32 x0_1, .int .u32 x0_2] 48) ∧ Row w' (A + 1) 32 .u8 x4 ∧ Row w' (A + 1 + 1) 32 .u8 x5 ∧ HoldsS w' (.slice a6 n6 cap6) n6 p6 ∧ M1 ≤ w'.heap.size ∧ Below A w w') [0, 1, 2, 3, 4, 5, 6, 7, 8, 9, 10, 11] [9, 10] [12, 13, 14]
      (fun ι w' v => match ι with
        | 0 | 1 => v = plV x0_0 x0_1 x0_2
        | 2 => v = .int .i64 x1
        | 3 => v = dgV x4
        | 4 => v = .int .i64 x2
        | 5 => v = .int .i64 x3
        | 8 => v = dgV z
        | 10 => v = .int .i64 q
        | 6 => TupS w' v z q n Wl
        | 7 => TupS w' v z q n Wl
        | 9 => WayS w' v n Wl
        | 11 => ∃ g, v = .pointer (some ⟨g, 0, none⟩) ∧ M1 ≤ g ∧ Row w' g 33 .u8 (fill 16 [])
        | _ => v = .bool true)
      (Apt 11)
      [[], [(0, some 32)], [], [], [], [], [(1, some 33), (2, some 34), (3, some 35), (4, some 36), (5, some 37)], [(6, some 38)], [(7, some 31)], [(7, some 31)], [(7, some 31)], []]
      [[(7, some 31)], [(7, some 31)]]
      [(0, some 32), (1, some 33), (2, some 34), (3, some 35), (4, some 36), (5, some 37), (6, some 38), (7, some 31), (8, some 39), (9, some 40), (10, some 41), (11, some 15)]
      (by kernel_rfl) (by kernel_rfl) (by kernel_rfl) (by kernel_rfl) (by kernel_rfl) (by kernel_rfl) (by kernel_rfl) (by decide) (by decide) (fun w1 w2 h hb => ⟨h.1.keep hb, h.2.1.keep hb, h.2.2.1.keep hb, h.2.2.2.1.keep hb, Nat.le_trans h.2.2.2.2.1 hb.size, h.2.2.2.2.2.trans (hb.mono (Nat.le_of_lt h.1.lt))⟩) (fun c a w d v h => by cases d <;> exact h) (Apt.symm _) ?_ ⟨P1.out.draw, R1_e.out.drew, R1_l.out.drew, Y1_6.out.drew, HM1.out, B1.out.drew⟩ ?_ ?_ ?_
    · intro ι w1 w2 v h hb
      by_cases h6 : ι = 6
      · subst h6
        exact TupS.keep h hb
      by_cases h7 : ι = 7
      · subst h7
        exact TupS.keep h hb
      by_cases h9 : ι = 9
      · subst h9
        exact WayS.keep h hb
      by_cases h11 : ι = 11
      · subst h11
        exact (by obtain ⟨g, e, h1, hg⟩ := h; exact ⟨g, e, h1, hg.keep hb⟩)
      match ι, h6, h7, h9, h11, h with
      | 0, _, _, _, _, h => exact h
      | 1, _, _, _, _, h => exact h
      | 2, _, _, _, _, h => exact h
      | 3, _, _, _, _, h => exact h
      | 4, _, _, _, _, h => exact h
      | 5, _, _, _, _, h => exact h
      | 6, g, _, _, _, h => exact absurd rfl g
      | 7, _, g, _, _, h => exact absurd rfl g
      | 8, _, _, _, _, h => exact h
      | 9, _, _, g, _, h => exact absurd rfl g
      | 10, _, _, _, _, h => exact h
      | 11, _, _, _, g, h => exact absurd rfl g
      | _ + 12, _, _, _, _, h => exact h
    · refine ⟨fun γ wx hS h => ?_, fun γ wx hS h => ?_, fun γ wx hS h => ?_, fun γ wx hS h => ?_, fun γ wx hS h => ?_, fun γ wx hS h => ?_, fun γ wx hS h => ?_, fun γ wx hS h => ?_, fun γ wx hS h => ?_, fun γ wx hS h => ?_, fun γ wx hS h => ?_, fun γ wx hS h => ?_, trivial⟩
      · refine ⟨_, rfl, Or.inl ⟨rfl, predRun_value (exec_load_blk 48 (.tmp 7) rfl (A) rfl 48 _ (0, 0) _ hS.1 Tryd.underlying48 rfl (cells48 x0_0 x0_1 x0_2)) ⟨rfl, fun j u hj hu hd => ⟨fun _ _ _ => trivial, fun e => absurd e (by decide)⟩⟩⟩⟩
      · have h0 := h
        have e0 : γ 0 = plV x0_0 x0_1 x0_2 := h0
        refine ⟨_, rfl, Or.inl ⟨rfl, predRun_call (f := 32) (args := #[plV x0_0 x0_1 x0_2]) (by simp only [putE, e0]; go_simp) ?_⟩⟩
        exact (to_any x0_0 x0_1 x0_2 wx).mono fun e w2 ⟨h1, h2⟩ => ⟨_, h1, ⟨rfl, fun j u hj hu hd => ⟨fun _ _ _ => trivial, fun e => absurd e (by decide)⟩⟩, h2⟩
      · refine ⟨_, rfl, Or.inl ⟨rfl, predRun_value (v := .int .i64 x1) (by simp only [putE]; first | rfl | (go_simp; done) | (go_simp; with_reducible rfl) | (go_simp; rfl)) ⟨rfl, fun j u hj hu hd => ⟨fun _ _ _ => trivial, fun e => absurd e (by decide)⟩⟩⟩⟩
      · refine ⟨_, rfl, Or.inl ⟨rfl, predRun_value (exec_load_blk 32 (.tmp 11) rfl (A + 1) rfl 32 _ (0, 0) _ hS.2.1 Tryd.underlying32 rfl (cells49 HX4.out)) ⟨rfl, fun j u hj hu hd => ⟨fun _ _ _ => trivial, fun e => absurd e (by decide)⟩⟩⟩⟩
      · refine ⟨_, rfl, Or.inl ⟨rfl, predRun_value (v := .int .i64 x2) (by simp only [putE]; first | rfl | (go_simp; done) | (go_simp; with_reducible rfl) | (go_simp; rfl)) ⟨rfl, fun j u hj hu hd => ⟨fun _ _ _ => trivial, fun e => absurd e (by decide)⟩⟩⟩⟩
      · refine ⟨_, rfl, Or.inl ⟨rfl, predRun_value (v := .int .i64 x3) (by simp only [putE]; first | rfl | (go_simp; done) | (go_simp; with_reducible rfl) | (go_simp; rfl)) ⟨rfl, fun j u hj hu hd => ⟨fun _ _ _ => trivial, fun e => absurd e (by decide)⟩⟩⟩⟩
      · obtain ⟨h1, h2, h3, h4, h5⟩ := h
        have e1 : γ 1 = plV x0_0 x0_1 x0_2 := h1
        have e2 : γ 2 = .int .i64 x1 := h2
        have e3 : γ 3 = dgV x4 := h3
        have e4 : γ 4 = .int .i64 x2 := h4
        have e5 : γ 5 = .int .i64 x3 := h5
        refine ⟨_, rfl, Or.inl ⟨rfl, predRun_call (f := 44) (args := #[plV x0_0 x0_1 x0_2, .int .i64 x1, dgV x4, .int .i64 x2, .int .i64 x3]) (by simp only [putE, e1, e2, e3, e4, e5]; go_simp) ?_⟩⟩
        refine (show_any x0_0 x0_1 x0_2 x1 x4 x2 x3 wx (HK.out.keep (by rw [← HA.out]; exact hS.2.2.2.2.2)) HE.out HS.out HX4.out HB4.out).mono ?_
        rintro e w2 ⟨v', h1, h2, h3, h4⟩
        rw [← HZQ.out.1, ← HZQ.out.2.1] at h1
        rw [← HZQ.out.2.2.1, ← HZQ.out.2.2.2] at h2
        obtain ⟨a, c, rfl, -⟩ := id h2
        refine ⟨_, h1, ⟨⟨a, c, rfl, h2, fun x hx => (h3 x n c (by rw [hx])).2⟩, ?_⟩, h4⟩
        intro j u hj hu hd
        refine ⟨fun ej g eg => ?_, fun e => absurd e (by decide)⟩
        subst ej
        obtain ⟨g', e', _, hr⟩ := hu
        obtain rfl : g = g' := by rw [eg] at e'; simpa using e'
        have := hr.lt
        exact tup_off fun x hx => by have := (h3 x n c (by rw [hx])).1; omega
      · have h6 := h
        have p6 : TupS wx (γ 6) z q n Wl := h6
        obtain ⟨a, c, e6, h1, h2⟩ := p6
        refine ⟨_, rfl, Or.inl ⟨rfl, predRun_value (v := .tuple #[dgV z, .slice a n c, .int .i64 q]) (by simp only [putE, e6]; first | rfl | (go_simp; done) | (go_simp; rfl)) ⟨⟨a, c, rfl, h1, h2⟩, fun j u hj hu hd => ⟨fun ej g eg => ?_, fun e => absurd e (by decide)⟩⟩⟩⟩
        have h9 := (hd (6, some 38) (by simp) (by rw [ej]; decide)).1 ej g eg
        rw [e6] at h9
        exact h9
      · have h7 := h
        have p7 : TupS wx (γ 7) z q n Wl := h7
        obtain ⟨a, c, e7, h1, h2⟩ := p7
        refine ⟨_, rfl, Or.inl ⟨rfl, predRun_value (v := dgV z) (by simp only [putE, e7]; first | rfl | (go_simp; done) | (go_simp; rfl)) ⟨rfl, fun j u hj hu hd => ⟨fun _ _ _ => trivial, fun e => absurd e (by decide)⟩⟩⟩⟩
      · have h7 := h
        have p7 : TupS wx (γ 7) z q n Wl := h7
        obtain ⟨a, c, e7, h1, h2⟩ := p7
        refine ⟨_, rfl, Or.inl ⟨rfl, predRun_value (v := .slice a n c) (by simp only [putE, e7]; first | rfl | (go_simp; done) | (go_simp; rfl)) ⟨⟨a, c, rfl, h1, h2⟩, fun j u hj hu hd => ⟨fun ej g eg => ?_, fun e => absurd e (by decide)⟩⟩⟩⟩
        have h9 := (hd (7, some 31) (by simp) (by rw [ej]; decide)).1 ej g eg
        rw [e7] at h9
        exact tup_slice h9
      · have h7 := h
        have p7 : TupS wx (γ 7) z q n Wl := h7
        obtain ⟨a, c, e7, h1, h2⟩ := p7
        refine ⟨_, rfl, Or.inl ⟨rfl, predRun_value (v := .int .i64 q) (by simp only [putE, e7]; first | rfl | (go_simp; done) | (go_simp; rfl)) ⟨rfl, fun j u hj hu hd => ⟨fun _ _ _ => trivial, fun e => absurd e (by decide)⟩⟩⟩⟩
      · refine ⟨_, rfl, Or.inl ⟨rfl, predRun_new (w' := wx.alloc z50) (v := .pointer (some ⟨wx.heap.size, 0, none⟩)) (by simp only [putE]; first | rfl | (go_simp; done) | (go_simp; rfl)) (more (Below.refl _ _) _) ⟨⟨_, rfl, hS.2.2.2.2.1, Blk.new _ _⟩, ?_⟩⟩⟩
        refine fun j u hj hu hd => ⟨fun e => absurd e hj, fun _ g eg => ?_⟩
        obtain rfl : wx.heap.size = g := by simpa using eg
        exact match j, hu with
          | 0, hu => by rw [show u = plV x0_0 x0_1 x0_2 from hu]; trivial
          | 1, hu => by rw [show u = plV x0_0 x0_1 x0_2 from hu]; trivial
          | 2, hu => by rw [show u = .int .i64 x1 from hu]; trivial
          | 3, hu => by rw [show u = dgV x4 from hu]; trivial
          | 4, hu => by rw [show u = .int .i64 x2 from hu]; trivial
          | 5, hu => by rw [show u = .int .i64 x3 from hu]; trivial
          | 6, hu => TupS.off hu
          | 7, hu => TupS.off hu
          | 8, hu => by rw [show u = dgV z from hu]; trivial
          | 9, hu => WayS.off hu
          | 10, hu => by rw [show u = .int .i64 q from hu]; trivial
          | 11, hu => absurd rfl hj
          | _ + 12, hu => by rw [show u = .bool true from hu]; trivial
    · refine ⟨fun γ wx hS h => ?_, fun γ wx hS h => ?_, trivial⟩
      · have h7 := h
        have p7 : TupS wx (γ 7) z q n Wl := h7
        obtain ⟨a, c, e7, h1, h2⟩ := p7
        refine ⟨_, .slice a n c, rfl, Or.inl ⟨rfl, fun wz => by simp only [putE, e7]; first | rfl | (go_simp; done) | (go_simp; rfl)⟩, ⟨a, c, rfl, h1, h2⟩, fun j u hj hu hd => ⟨fun ej g eg => ?_, fun e => absurd e (by decide)⟩⟩
        have h9 := (hd (7, some 31) (by simp) (by rw [ej]; decide)).1 ej g eg
        rw [e7] at h9
        exact tup_slice h9
      · have h7 := h
        have p7 : TupS wx (γ 7) z q n Wl := h7
        obtain ⟨a, c, e7, h1, h2⟩ := p7
        refine ⟨_, .int .i64 q, rfl, Or.inl ⟨rfl, fun wz => by simp only [putE, e7]; first | rfl | (go_simp; done) | (go_simp; rfl)⟩, rfl, fun j u hj hu hd => ⟨fun _ _ _ => trivial, fun e => absurd e (by decide)⟩⟩
    · intro γ w9 hS h hT
      have ez : γ 8 = dgV z := h.2.2.2.2.2.2.2.2.1
      have e10 : γ 10 = .int .i64 q := h.2.2.2.2.2.2.2.2.2.2.1
      obtain ⟨a, c, ew, pw⟩ : WayS w9 (γ 9) n Wl := h.2.2.2.2.2.2.2.2.2.1
      obtain ⟨g1, ep, hMg, hg⟩ : ∃ g, γ 11 = .pointer (some ⟨g, 0, none⟩) ∧ M1 ≤ g ∧ Row w9 g 33 .u8 (fill 16 []) := h.2.2.2.2.2.2.2.2.2.2.2
      have hoff := (hT 9 (by decide) 11 (by decide) (by decide)).1 rfl g1 ep
      rw [ew] at hoff
      simp only [putE, Act.put, List.setIfInBounds_toArray, List.set_cons_zero, List.set_cons_succ]
      rw [ez, ep, e10, ew]
      have HGA : Kp (Row w9 g1 33 .u8 (fill 16 [])) := ⟨hg⟩
      obtain ⟨W2, hW9⟩ : ∃ W, W = w9.setRow g1 (kv .u8 z).toArray := ⟨_, rfl⟩
      have P2 : Kp (Blk W2 A (.cells #[.int .i64 x0_0, .int .u32 x0_1, .int .u32 x0_2] 48)) := ⟨by rw [hW9]; exact (setRow_other _ g1 A _ (by omega)).trans hS.1⟩
      have R2_e : Kp (Row W2 (A + 1) 32 .u8 x4) := ⟨by rw [hW9]; exact Row.otherRow hS.2.1 (by omega) _⟩
      have R2_l : Kp (Row W2 (A + 1 + 1) 32 .u8 x5) := ⟨by rw [hW9]; exact Row.otherRow hS.2.2.1 (by omega) _⟩
      have R2_g1 : Kp (Row W2 (g1) 33 .u8 z) := ⟨by rw [hW9]; exact HGA.out.setRow z⟩
      have Y2_6 : Kp (HoldsS W2 (.slice a6 n6 cap6) n6 p6) := ⟨by rw [hW9]; exact hS.2.2.2.1.off2 (fun h0 => wayb_off (HWB1_6.out h0) (by omega)) _⟩
      have Y2_w : Kp (HoldsS W2 (.slice a n c) n Wl) := ⟨by rw [hW9]; exact pw.1.off2 (fun _ => hoff) _⟩
      have B2 : Kp (Below A w W2) := ⟨by rw [hW9]; exact Below.row hS.2.2.2.2.2 (by omega) _⟩
      have HWk := Kp.mk hW9
      clear h hS ez ep hg hW9 P1 B1 HM1 HMs1 hMg hbA1 R1_e hb1_e R1_l hb1_l e10 Y1_6 HWB1_6 hT ew pw hoff
      refine wpOps_step rfl rfl ?_
      refine wp_store_rowD rfl 33 (.tmp 15) (.tmp 39) rfl g1 (kv .u8 z).toArray rfl rfl 33 _ HGA.out (cells50 HL_z.out.1) (size50 HL_z.out.1) (kv_all _ _) ?_
      rw [← HWk.out]
      clear HWk HGA
      refine wpOps_step rfl rfl ?_
      refine wp_assign_endD (d := some 16) (v := .slice a n c) rfl rfl rfl ?_
      simp only [Act.put, List.setIfInBounds_toArray, List.set_cons_zero, List.set_cons_succ]
      refine wpOps_step rfl rfl ?_
      refine wp_assign_endD (d := some 17) (v := .int .i64 q) rfl rfl rfl ?_
      simp only [Act.put, List.setIfInBounds_toArray, List.set_cons_zero, List.set_cons_succ]
      refine wpOps_done ?_
      go_wp2_with first
        | (refine wpList_load_row rfl 48 (.tmp 7) rfl A rfl 48 _ (0, 0) _ P2.out Tryd.underlying48 rfl (cells48 x0_0 x0_1 x0_2) ?_)
        | (refine wpList_load_row rfl 32 (.tmp 11) rfl (A + 1) rfl 32 _ (0, 0) _ R2_e.out Tryd.underlying32 rfl (cells49 HX4.out) ?_)
      refine (rshow_any x0_0 x0_1 x0_2 x1 x4 x2 x3 W2 HE.out HS.out HX4.out HB4.out).mono ?_
      rintro r w10 ⟨v', rfl, k1, k2, hb⟩
      rw [← HZQ.out.2.2.1, ← HZQ.out.2.2.2] at k1
      rw [← HZQ.out.1, ← HZQ.out.2.1]
      obtain ⟨a2, c2, rfl, -⟩ := id k1
      have EY_v := Kp.mk k1
      clear k1 k2
      have E0 := Kp.mk (P2.out.keep hb)
      have E_e := Kp.mk (R2_e.out.keep hb)
      have E_l := Kp.mk (R2_l.out.keep hb)
      have E_g1 := Kp.mk (R2_g1.out.keep hb)
      have EY_6 := Kp.mk (Y2_6.out.keep hb)
      have EY_w := Kp.mk (Y2_w.out.keep hb)
      have EB : Kp (Below A w w10) := ⟨B2.out.trans (hb.mono (Nat.le_of_lt P2.out.lt))⟩
      clear hb P2 B2 R2_e R2_l R2_g1 Y2_6 Y2_w
      obtain ⟨g2, hB⟩ : ∃ B, B = w10.heap.size := ⟨_, rfl⟩
      have hbA : A < g2 := by rw [hB]; exact E0.out.lt
      have hbb_e : A + 1 < g2 := by rw [hB]; exact E_e.out.lt
      have hbb_l : A + 1 + 1 < g2 := by rw [hB]; exact E_l.out.lt
      have hbb_g1 : g1 < g2 := by rw [hB]; exact E_g1.out.lt
      obtain ⟨W3, hW⟩ : ∃ W, W = (w10.alloc z49).setRow g2 (kv .u8 z).toArray := ⟨_, rfl⟩
      have hN : Row (w10.alloc z49) g2 32 .u8 (fill 16 []) := Blk.newAt _ hB
      have P3 : Kp (Blk W3 A (.cells #[.int .i64 x0_0, .int .u32 x0_1, .int .u32 x0_2] 48)) := ⟨by rw [hW]; exact (setRow_other _ g2 A _ (by omega)).trans (Blk.old E0.out _)⟩
      have R3_e : Kp (Row W3 (A + 1) 32 .u8 x4) := ⟨by rw [hW]; exact Row.otherRow (Row.alloc E_e.out _) (by omega) _⟩
      have R3_l : Kp (Row W3 (A + 1 + 1) 32 .u8 x5) := ⟨by rw [hW]; exact Row.otherRow (Row.alloc E_l.out _) (by omega) _⟩
      have R3_g1 : Kp (Row W3 (g1) 33 .u8 z) := ⟨by rw [hW]; exact Row.otherRow (Row.alloc E_g1.out _) (by omega) _⟩
      have R3_g2 : Kp (Row W3 (g2) 32 .u8 z) := ⟨by rw [hW]; exact Row.setRow (k := .u8) (l := fill 16 []) hN _⟩
      have Y3_6 : Kp (HoldsS W3 (.slice a6 n6 cap6) n6 p6) := ⟨by rw [hW]; exact (HoldsS.keep EY_6.out (more (Below.refl _ _) _)).off2 (fun h0 => slice_off fun x hx => by have := EY_6.out.lt h0 x hx; omega) _⟩
      have Y3_w : Kp (HoldsS W3 (.slice a n c) n Wl) := ⟨by rw [hW]; exact (HoldsS.keep EY_w.out (more (Below.refl _ _) _)).off2 (fun h0 => slice_off fun x hx => by have := EY_w.out.lt h0 x hx; omega) _⟩
      have Y3_v : Kp (HoldsS W3 (.slice a2 n c2) n Wl) := ⟨by rw [hW]; exact (HoldsS.keep EY_v.out (more (Below.refl _ _) _)).off2 (fun h0 => slice_off fun x hx => by have := EY_v.out.lt h0 x hx; omega) _⟩
      have B3 : Kp (Below A w W3) := ⟨by rw [hW]; exact Below.row (EB.out.alloc (by have := E0.out.lt; omega) _) (by omega) _⟩
      have HBe := Kp.mk hB
      have hW2 : W3 = (w10.alloc z49).setRow w10.heap.size (kv .u8 z).toArray := by rw [hW, hB]
      clear hN hW hB E0 EB hbA E_e E_l E_g1 hbb_e hbb_l hbb_g1 EY_6 EY_w EY_v
      go_wp2_with (refine wpList_store_row rfl 32 (.tmp 18) (.tmp 49) rfl w10.heap.size (kv .u8 z).toArray rfl rfl 32 _ (Blk.new w10 z49) (cells49 HL_z.out.1) (size50 HL_z.out.1) (kv_all _ _) ?_; refine wpl_world (· = W3) hW2.symm ?_; clear hW2; intro W0 e0; rw [e0]; clear e0)
      rw [← HBe.out]
      clear HBe
      obtain ⟨M3, hM⟩ : ∃ M, M = W3.heap.size := ⟨_, rfl⟩
      have hbA3 : A < M3 := by rw [hM]; exact P3.out.lt
      have hb3_e : A + 1 < M3 := by rw [hM]; exact R3_e.out.lt
      have hb3_l : A + 1 + 1 < M3 := by rw [hM]; exact R3_l.out.lt
      have hb3_g1 : g1 < M3 := by rw [hM]; exact R3_g1.out.lt
      have hb3_g2 : g2 < M3 := by rw [hM]; exact R3_g2.out.lt
      have HM3 : Kp (M3 ≤ W3.heap.size) := ⟨Nat.le_of_eq hM⟩
      have HMs3 : Kp (W3.heap.size ≤ M3) := ⟨Nat.le_of_eq hM.symm⟩
      have HWB3_6 : Kp (0 < n6 → ∀ x, a6 = some x → x.block < M3) := ⟨fun h0 x hx => Nat.lt_of_lt_of_le (Y3_6.out.lt h0 x hx) HMs3.out⟩
      have HWB3_w : Kp (0 < n → ∀ x, a = some x → x.block < M3) := ⟨fun h0 x hx => Nat.lt_of_lt_of_le (Y3_w.out.lt h0 x hx) HMs3.out⟩
      have HWB3_v : Kp (0 < n → ∀ x, a2 = some x → x.block < M3) := ⟨fun h0 x hx => Nat.lt_of_lt_of_le (Y3_v.out.lt h0 x hx) HMs3.out⟩
      clear hM
      go_wp2_with fail
      refine wp_region_predQ (fun w' => Blk w' A (.cells #[.int .i64 x0_0, .int .u32 x0_1, .int .u32 x0_2] 48) ∧ Row w' (A + 1) 32 .u8 x4 ∧ Row w' (A + 1 + 1) 32 .u8 x5 ∧ Row w' (g1) 33 .u8 z ∧ Row w' (g2) 32 .u8 z ∧ HoldsS w' (.slice a6 n6 cap6) n6 p6 ∧ HoldsS w' (.slice a n c) n Wl ∧ HoldsS w' (.slice a2 n c2) n Wl ∧ M3 ≤ w'.heap.size ∧ Below A w w') [0, 1, 2, 3, 4, 5, 6, 7, 8, 9, 10, 11, 12] [11] [13, 14]
        (fun ι w' v => match ι with
          | 0 | 1 => v = plV x0_0 x0_1 x0_2
          | 2 => v = .int .i64 x1
          | 3 => v = .int .i64 x2
          | 4 => v = .int .i64 x3
          | 5 => v = dgV x5
          | 6 => v = .slice a6 n6 cap6
          | 8 | 9 => v = .tuple #[dgV u, .int .i64 q5]
          | 10 => v = dgV u
          | 11 => v = .int .i64 q5
          | 7 => HoldsS w' v n6 p6
          | 12 => ∃ g, v = .pointer (some ⟨g, 0, none⟩) ∧ M3 ≤ g ∧ Row w' g 33 .u8 (fill 16 [])
          | _ => v = .bool true)
        [[], [(0, some 53)], [], [], [], [], [], [(1, some 54), (6, some 59)], [(1, some 54), (2, some 55), (3, some 56), (4, some 57), (5, some 58), (7, some 60)], [(8, some 61)], [(9, some 52)], [(9, some 52)], []]
        [[(9, some 52)]]
        [(0, some 53), (1, some 54), (2, some 55), (3, some 56), (4, some 57), (5, some 58), (6, some 59), (7, some 60), (8, some 61), (9, some 52), (10, some 62), (11, some 63), (12, some 21)]
        (by kernel_rfl) (by kernel_rfl) (by kernel_rfl) (by kernel_rfl) (by kernel_rfl) (by kernel_rfl) (by kernel_rfl) (by decide) (by decide) (fun w1 w2 h hb => ⟨h.1.keep hb, h.2.1.keep hb, h.2.2.1.keep hb, h.2.2.2.1.keep hb, h.2.2.2.2.1.keep hb, h.2.2.2.2.2.1.keep hb, h.2.2.2.2.2.2.1.keep hb, h.2.2.2.2.2.2.2.1.keep hb, Nat.le_trans h.2.2.2.2.2.2.2.2.1 hb.size, h.2.2.2.2.2.2.2.2.2.trans (hb.mono (Nat.le_of_lt h.1.lt))⟩) (fun c a w d v h => by cases d <;> exact h) ?_ ⟨P3.out.draw, R3_e.out.drew, R3_l.out.drew, R3_g1.out.drew, R3_g2.out.drew, Y3_6.out.drew, Y3_w.out.drew, Y3_v.out.drew, HM3.out, B3.out.drew⟩ ?_ ?_ ?_
      · intro ι w1 w2 v h hb
        by_cases h7 : ι = 7
        · subst h7
          exact HoldsS.keep h hb
        by_cases h12 : ι = 12
        · subst h12
          exact (by obtain ⟨g, e, h1, hg⟩ := h; exact ⟨g, e, h1, hg.keep hb⟩)
        match ι, h7, h12, h with
        | 0, _, _, h => exact h
        | 1, _, _, h => exact h
        | 2, _, _, h => exact h
        | 3, _, _, h => exact h
        | 4, _, _, h => exact h
        | 5, _, _, h => exact h
        | 6, _, _, h => exact h
        | 7, g, _, h => exact absurd rfl g
        | 8, _, _, h => exact h
        | 9, _, _, h => exact h
        | 10, _, _, h => exact h
        | 11, _, _, h => exact h
        | 12, _, g, h => exact absurd rfl g
        | _ + 13, _, _, h => exact h
      · refine ⟨fun γ wx hS h => ?_, fun γ wx hS h => ?_, fun γ wx hS h => ?_, fun γ wx hS h => ?_, fun γ wx hS h => ?_, fun γ wx hS h => ?_, fun γ wx hS h => ?_, fun γ wx hS h => ?_, fun γ wx hS h => ?_, fun γ wx hS h => ?_, fun γ wx hS h => ?_, fun γ wx hS h => ?_, fun γ wx hS h => ?_, trivial⟩
        · refine ⟨_, rfl, Or.inl ⟨rfl, predRun_value (exec_load_blk 48 (.tmp 7) rfl (A) rfl 48 _ (0, 0) _ hS.1 Tryd.underlying48 rfl (cells48 x0_0 x0_1 x0_2)) rfl⟩⟩
        · have h0 := h
          have e0 : γ 0 = plV x0_0 x0_1 x0_2 := h0
          refine ⟨_, rfl, Or.inl ⟨rfl, predRun_call (f := 32) (args := #[plV x0_0 x0_1 x0_2]) (by simp only [putE, e0]; go_simp) ?_⟩⟩
          exact (to_any x0_0 x0_1 x0_2 wx).mono fun e w2 ⟨h1, h2⟩ => ⟨_, h1, rfl, h2⟩
        · refine ⟨_, rfl, Or.inl ⟨rfl, predRun_value (v := .int .i64 x1) (by simp only [putE]; first | rfl | (go_simp; done) | (go_simp; with_reducible rfl) | (go_simp; rfl)) rfl⟩⟩
        · refine ⟨_, rfl, Or.inl ⟨rfl, predRun_value (v := .int .i64 x2) (by simp only [putE]; first | rfl | (go_simp; done) | (go_simp; with_reducible rfl) | (go_simp; rfl)) rfl⟩⟩
        · refine ⟨_, rfl, Or.inl ⟨rfl, predRun_value (v := .int .i64 x3) (by simp only [putE]; first | rfl | (go_simp; done) | (go_simp; with_reducible rfl) | (go_simp; rfl)) rfl⟩⟩
        · refine ⟨_, rfl, Or.inl ⟨rfl, predRun_value (exec_load_blk 32 (.tmp 12) rfl (A + 1 + 1) rfl 32 _ (0, 0) _ hS.2.2.1 Tryd.underlying32 rfl (cells49 HX5.out)) rfl⟩⟩
        · refine ⟨_, rfl, Or.inl ⟨rfl, predRun_value (v := .slice a6 n6 cap6) (by simp only [putE]; first | rfl | (go_simp; done) | (go_simp; with_reducible rfl) | (go_simp; rfl)) rfl⟩⟩
        · obtain ⟨h1, h6⟩ := h
          have e1 : γ 1 = plV x0_0 x0_1 x0_2 := h1
          have e6 : γ 6 = .slice a6 n6 cap6 := h6
          refine ⟨_, rfl, Or.inl ⟨rfl, predRun_call (f := 47) (args := #[.slice a6 n6 cap6]) (by simp only [putE, e1, e6]; go_simp) ?_⟩⟩
          refine (toS_any _ n6 p6 wx hS.2.2.2.2.2.1 (by omega)).mono ?_
          rintro e w2 ⟨v', h1, h2, h3⟩
          exact ⟨v', h1, HoldsS.ofRow HP6.out.2 (by unfold maxLen; omega) HP6.out.1 h2, h3⟩
        · obtain ⟨h1, h2, h3, h4, h5, h7⟩ := h
          have e1 : γ 1 = plV x0_0 x0_1 x0_2 := h1
          have e2 : γ 2 = .int .i64 x1 := h2
          have e3 : γ 3 = .int .i64 x2 := h3
          have e4 : γ 4 = .int .i64 x3 := h4
          have e5 : γ 5 = dgV x5 := h5
          have p7 : HoldsS wx (γ 7) n6 p6 := h7
          obtain ⟨a7, c7, e7, -⟩ := id p7
          refine ⟨_, rfl, Or.inl ⟨rfl, predRun_call (f := 46) (args := #[plV x0_0 x0_1 x0_2, .int .i64 x1, .int .i64 x2, .int .i64 x3, dgV x5, .slice a7 n6 c7]) (by simp only [putE, e1, e2, e3, e4, e5, e7]; go_simp) ?_⟩⟩
          rw [e7] at p7
          exact (rise_any x0_0 x0_1 x0_2 x1 x2 x3 x5 a7 n6 c7 p6 wx (HK.out.keep (by rw [← HA.out]; exact hS.2.2.2.2.2.2.2.2.2)) HE.out HS.out HX5.out HB5.out p7).mono fun e w2 ⟨h1, h2⟩ => ⟨_, h1, by show Value.tuple _ = Value.tuple _; rw [HUQ.out.1, HUQ.out.2], h2⟩
        · have h8 := h
          have e8 : γ 8 = .tuple #[dgV u, .int .i64 q5] := h8
          refine ⟨_, rfl, Or.inl ⟨rfl, predRun_value (v := .tuple #[dgV u, .int .i64 q5]) (by simp only [putE, e8]; first | rfl | (go_simp; done) | (go_simp; with_reducible rfl) | (go_simp; rfl)) rfl⟩⟩
        · have h9 := h
          have e9 : γ 9 = .tuple #[dgV u, .int .i64 q5] := h9
          refine ⟨_, rfl, Or.inl ⟨rfl, predRun_value (v := dgV u) (by simp only [putE, e9]; first | rfl | (go_simp; done) | (go_simp; with_reducible rfl) | (go_simp; rfl)) rfl⟩⟩
        · have h9 := h
          have e9 : γ 9 = .tuple #[dgV u, .int .i64 q5] := h9
          refine ⟨_, rfl, Or.inl ⟨rfl, predRun_value (v := .int .i64 q5) (by simp only [putE, e9]; first | rfl | (go_simp; done) | (go_simp; with_reducible rfl) | (go_simp; rfl)) rfl⟩⟩
        · refine ⟨_, rfl, Or.inl ⟨rfl, predRun_new (w' := wx.alloc z50) (v := .pointer (some ⟨wx.heap.size, 0, none⟩)) (by simp only [putE]; first | rfl | (go_simp; done) | (go_simp; rfl)) (more (Below.refl _ _) _) ⟨_, rfl, hS.2.2.2.2.2.2.2.2.1, Blk.new _ _⟩⟩⟩
      · refine ⟨fun γ wx hS h => ?_, trivial⟩
        · have h9 := h
          have e9 : γ 9 = .tuple #[dgV u, .int .i64 q5] := h9
          refine ⟨_, .int .i64 q5, rfl, Or.inl ⟨rfl, fun wz => by simp only [putE, e9]; first | rfl | (go_simp; done) | (go_simp; rfl)⟩, rfl⟩
      · intro γ w9 hS h
        have ez : γ 10 = dgV u := h.2.2.2.2.2.2.2.2.2.2.1
        have e11 : γ 11 = .int .i64 q5 := h.2.2.2.2.2.2.2.2.2.2.2.1
        obtain ⟨g5, ep, hMg, hg⟩ : ∃ g, γ 12 = .pointer (some ⟨g, 0, none⟩) ∧ M3 ≤ g ∧ Row w9 g 33 .u8 (fill 16 []) := h.2.2.2.2.2.2.2.2.2.2.2.2
        simp only [putE, Act.put, List.setIfInBounds_toArray, List.set_cons_zero, List.set_cons_succ]
        rw [ez, ep, e11]
        have HGA : Kp (Row w9 g5 33 .u8 (fill 16 [])) := ⟨hg⟩
        obtain ⟨W4, hW9⟩ : ∃ W, W = w9.setRow g5 (kv .u8 u).toArray := ⟨_, rfl⟩
        have P4 : Kp (Blk W4 A (.cells #[.int .i64 x0_0, .int .u32 x0_1, .int .u32 x0_2] 48)) := ⟨by rw [hW9]; exact (setRow_other _ g5 A _ (by omega)).trans hS.1⟩
        have R4_e : Kp (Row W4 (A + 1) 32 .u8 x4) := ⟨by rw [hW9]; exact Row.otherRow hS.2.1 (by omega) _⟩
        have R4_l : Kp (Row W4 (A + 1 + 1) 32 .u8 x5) := ⟨by rw [hW9]; exact Row.otherRow hS.2.2.1 (by omega) _⟩
        have R4_g1 : Kp (Row W4 (g1) 33 .u8 z) := ⟨by rw [hW9]; exact Row.otherRow hS.2.2.2.1 (by omega) _⟩
        have R4_g2 : Kp (Row W4 (g2) 32 .u8 z) := ⟨by rw [hW9]; exact Row.otherRow hS.2.2.2.2.1 (by omega) _⟩
        have R4_g5 : Kp (Row W4 (g5) 33 .u8 u) := ⟨by rw [hW9]; exact HGA.out.setRow u⟩
        have Y4_6 : Kp (HoldsS W4 (.slice a6 n6 cap6) n6 p6) := ⟨by rw [hW9]; exact hS.2.2.2.2.2.1.off2 (fun h0 => wayb_off (HWB3_6.out h0) (by omega)) _⟩
        have Y4_w : Kp (HoldsS W4 (.slice a n c) n Wl) := ⟨by rw [hW9]; exact hS.2.2.2.2.2.2.1.off2 (fun h0 => wayb_off (HWB3_w.out h0) (by omega)) _⟩
        have Y4_v : Kp (HoldsS W4 (.slice a2 n c2) n Wl) := ⟨by rw [hW9]; exact hS.2.2.2.2.2.2.2.1.off2 (fun h0 => wayb_off (HWB3_v.out h0) (by omega)) _⟩
        have B4 : Kp (Below A w W4) := ⟨by rw [hW9]; exact Below.row hS.2.2.2.2.2.2.2.2.2 (by omega) _⟩
        have HWk := Kp.mk hW9
        clear h hS ez ep hg hW9 P3 B3 HM3 HMs3 hMg hbA3 R3_e hb3_e R3_l hb3_l R3_g1 hb3_g1 R3_g2 hb3_g2 e11 Y3_6 HWB3_6 Y3_w HWB3_w Y3_v HWB3_v
        refine wpOps_step rfl rfl ?_
        refine wp_store_rowD rfl 33 (.tmp 21) (.tmp 62) rfl g5 (kv .u8 u).toArray rfl rfl 33 _ HGA.out (cells50 HL_u.out.1) (size50 HL_u.out.1) (kv_all _ _) ?_
        rw [← HWk.out]
        clear HWk HGA
        refine wpOps_step rfl rfl ?_
        refine wp_assign_endD (d := some 22) (v := .int .i64 q5) rfl rfl rfl ?_
        simp only [Act.put, List.setIfInBounds_toArray, List.set_cons_zero, List.set_cons_succ]
        refine wpOps_done ?_
        go_wp2_with first
          | (refine wpList_load_row rfl 48 (.tmp 7) rfl A rfl 48 _ (0, 0) _ P4.out Tryd.underlying48 rfl (cells48 x0_0 x0_1 x0_2) ?_)
          | (refine wpList_load_row rfl 32 (.tmp 12) rfl (A + 1 + 1) rfl 32 _ (0, 0) _ R4_l.out Tryd.underlying32 rfl (cells49 HX5.out) ?_)
        refine (rrise_any x0_0 x0_1 x0_2 x1 x2 x3 x5 a6 n6 cap6 p6 W4 HE.out HS.out HX5.out HB5.out Y4_6.out).mono ?_
        rintro r w10 ⟨v5, rfl, -, -, hb⟩
        rw [← HUQ.out.1, ← HUQ.out.2]
        have E0 := Kp.mk (P4.out.keep hb)
        have E_e := Kp.mk (R4_e.out.keep hb)
        have E_l := Kp.mk (R4_l.out.keep hb)
        have E_g1 := Kp.mk (R4_g1.out.keep hb)
        have E_g2 := Kp.mk (R4_g2.out.keep hb)
        have E_g5 := Kp.mk (R4_g5.out.keep hb)
        have EY_6 := Kp.mk (Y4_6.out.keep hb)
        have EY_w := Kp.mk (Y4_w.out.keep hb)
        have EY_v := Kp.mk (Y4_v.out.keep hb)
        have EB : Kp (Below A w w10) := ⟨B4.out.trans (hb.mono (Nat.le_of_lt P4.out.lt))⟩
        clear hb P4 B4 R4_e R4_l R4_g1 R4_g2 R4_g5 Y4_6 Y4_w Y4_v
        obtain ⟨g6, hB⟩ : ∃ B, B = w10.heap.size := ⟨_, rfl⟩
        have hbA : A < g6 := by rw [hB]; exact E0.out.lt
        have hbb_e : A + 1 < g6 := by rw [hB]; exact E_e.out.lt
        have hbb_l : A + 1 + 1 < g6 := by rw [hB]; exact E_l.out.lt
        have hbb_g1 : g1 < g6 := by rw [hB]; exact E_g1.out.lt
        have hbb_g2 : g2 < g6 := by rw [hB]; exact E_g2.out.lt
        have hbb_g5 : g5 < g6 := by rw [hB]; exact E_g5.out.lt
        obtain ⟨W5, hW⟩ : ∃ W, W = (w10.alloc z49).setRow g6 (kv .u8 u).toArray := ⟨_, rfl⟩
        have hN : Row (w10.alloc z49) g6 32 .u8 (fill 16 []) := Blk.newAt _ hB
        have P5 : Kp (Blk W5 A (.cells #[.int .i64 x0_0, .int .u32 x0_1, .int .u32 x0_2] 48)) := ⟨by rw [hW]; exact (setRow_other _ g6 A _ (by omega)).trans (Blk.old E0.out _)⟩
        have R5_e : Kp (Row W5 (A + 1) 32 .u8 x4) := ⟨by rw [hW]; exact Row.otherRow (Row.alloc E_e.out _) (by omega) _⟩
        have R5_l : Kp (Row W5 (A + 1 + 1) 32 .u8 x5) := ⟨by rw [hW]; exact Row.otherRow (Row.alloc E_l.out _) (by omega) _⟩
        have R5_g1 : Kp (Row W5 (g1) 33 .u8 z) := ⟨by rw [hW]; exact Row.otherRow (Row.alloc E_g1.out _) (by omega) _⟩
        have R5_g2 : Kp (Row W5 (g2) 32 .u8 z) := ⟨by rw [hW]; exact Row.otherRow (Row.alloc E_g2.out _) (by omega) _⟩
        have R5_g5 : Kp (Row W5 (g5) 33 .u8 u) := ⟨by rw [hW]; exact Row.otherRow (Row.alloc E_g5.out _) (by omega) _⟩
        have R5_g6 : Kp (Row W5 (g6) 32 .u8 u) := ⟨by rw [hW]; exact Row.setRow (k := .u8) (l := fill 16 []) hN _⟩
        have Y5_6 : Kp (HoldsS W5 (.slice a6 n6 cap6) n6 p6) := ⟨by rw [hW]; exact (HoldsS.keep EY_6.out (more (Below.refl _ _) _)).off2 (fun h0 => slice_off fun x hx => by have := EY_6.out.lt h0 x hx; omega) _⟩
        have Y5_w : Kp (HoldsS W5 (.slice a n c) n Wl) := ⟨by rw [hW]; exact (HoldsS.keep EY_w.out (more (Below.refl _ _) _)).off2 (fun h0 => slice_off fun x hx => by have := EY_w.out.lt h0 x hx; omega) _⟩
        have Y5_v : Kp (HoldsS W5 (.slice a2 n c2) n Wl) := ⟨by rw [hW]; exact (HoldsS.keep EY_v.out (more (Below.refl _ _) _)).off2 (fun h0 => slice_off fun x hx => by have := EY_v.out.lt h0 x hx; omega) _⟩
        have B5 : Kp (Below A w W5) := ⟨by rw [hW]; exact Below.row (EB.out.alloc (by have := E0.out.lt; omega) _) (by omega) _⟩
        have HBe := Kp.mk hB
        have hW2 : W5 = (w10.alloc z49).setRow w10.heap.size (kv .u8 u).toArray := by rw [hW, hB]
        clear hN hW hB E0 EB hbA E_e E_l E_g1 E_g2 E_g5 hbb_e hbb_l hbb_g1 hbb_g2 hbb_g5 EY_6 EY_w EY_v
        go_wp2_with (refine wpList_store_row rfl 32 (.tmp 23) (.tmp 72) rfl w10.heap.size (kv .u8 u).toArray rfl rfl 32 _ (Blk.new w10 z49) (cells49 HL_u.out.1) (size50 HL_u.out.1) (kv_all _ _) ?_; refine wpl_world (· = W5) hW2.symm ?_; clear hW2; intro W0 e0; rw [e0]; clear e0)
        rw [← HBe.out]
        clear HBe
        refine (awake6 W5 (HK.out.keep (by rw [← HA.out]; exact B5.out))).mono ?_
        rintro r w5 ⟨rfl, hb⟩
        have P9 := Kp.mk (P5.out.keep hb)
        have Y9_w := Kp.mk (Y5_w.out.keep hb)
        have Y9_v := Kp.mk (Y5_v.out.keep hb)
        have R9_g1 := Kp.mk (R5_g1.out.keep hb)
        have R9_g2 := Kp.mk (R5_g2.out.keep hb)
        have R9_g5 := Kp.mk (R5_g5.out.keep hb)
        have R9_g6 := Kp.mk (R5_g6.out.keep hb)
        have B9 : Kp (Below A w w5) := ⟨B5.out.trans (hb.mono (Nat.le_of_lt P5.out.lt))⟩
        clear hb P5 B5 R5_e R5_l R5_g1 R5_g2 R5_g5 R5_g6 Y5_6 Y5_w Y5_v
        have tq : (q == q) = true := by simp
        have hq : ∀ w, (binOp .eql 33 (dgV z) (dgV z)).run Tryd.prog w = .ok (.bool true) w := fun w => eql50 (p := z) HL_z.out.2 HL_z.out.1 w
        have hg := eqg50
        go_wp2_with first
          | (refine wpList_load_rowG rfl 33 (.tmp 15) rfl g1 rfl 33 _ (0, 0) _ R9_g1.out Tryd.underlying33 rfl (cells50 HL_z.out.1) ?_)
          | (refine wpList_load_rowG rfl 32 (.tmp 18) rfl g2 rfl 32 _ (0, 0) _ R9_g2.out Tryd.underlying32 rfl (cells49 HL_z.out.1) ?_)
        clear tq hq hg
        refine (fromS_any _ n Wl w5 Y9_w.out HN3.out).mono ?_
        rintro r w6 ⟨v6, rfl, k1, hb⟩
        have Y6 : Kp (HoldsS w6 v6 n Wl) := ⟨HoldsS.ofRow HWl.out.2 (by have := HN3.out; unfold maxLen; omega) HWl.out.1 k1⟩
        have Y6v := Kp.mk (Y9_v.out.keep hb)
        have R6_g5 := Kp.mk (R9_g5.out.keep hb)
        have R6_g6 := Kp.mk (R9_g6.out.keep hb)
        have B6 : Kp (Below A w w6) := ⟨B9.out.trans (hb.mono (Nat.le_of_lt P9.out.lt))⟩
        have HA6 : Kp (A ≤ w6.heap.size) := ⟨by have := P9.out.lt; have := hb.size; omega⟩
        clear k1 hb R9_g1 R9_g2 R9_g5 R9_g6 Y9_w Y9_v B9
        go_wp2_with fail
        refine (sames_any v6 (.slice a2 n c2) n n Wl Wl w6 Y6.out Y6v.out HN3.out HN3.out).mono ?_
        rintro r w7 ⟨rfl, hb⟩
        rw [show decide (n = n ∧ Wl = Wl) = true by simp]
        have R7_g5 := Kp.mk (R6_g5.out.keep hb)
        have R7_g6 := Kp.mk (R6_g6.out.keep hb)
        have B7 : Kp (Below A w w7) := ⟨B6.out.trans (hb.mono HA6.out)⟩
        clear hb R6_g5 R6_g6 B6 Y6 Y6v
        have tq : (q5 == q5) = true := by simp
        have hq : ∀ w, (binOp .eql 33 (dgV u) (dgV u)).run Tryd.prog w = .ok (.bool true) w := fun w => eql50 (p := u) HL_u.out.2 HL_u.out.1 w
        have hg := eqg50
        go_wp2_with first
          | (refine wpList_load_rowG rfl 33 (.tmp 21) rfl g5 rfl 33 _ (0, 0) _ R7_g5.out Tryd.underlying33 rfl (cells50 HL_u.out.1) ?_)
          | (refine wpList_load_rowG rfl 32 (.tmp 23) rfl g6 rfl 32 _ (0, 0) _ R7_g6.out Tryd.underlying32 rfl (cells49 HL_u.out.1) ?_)
        clear tq hq hg
        go_ret
        exact ⟨rfl, by rw [← HA.out]; exact B7.out⟩
end Go.Proofs.YtahmioiefmheeaaDoor
