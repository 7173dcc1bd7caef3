/-
  The law LadderMeets, walked.
-/
import Derived.Test.YtahmioiefmheeaaDoorGf18
namespace Go.Proofs.YtahmioiefmheeaaDoor
open Go.RowKit

/-- What a node shows rises to what stands above it. -/
theorem riseL_way (d e s r : Int) (x : List Int) (k j : Nat) : ∀ l, l ≤ k → riseL d e s r (nodeS d e s r x 0 j) j (wayL d e s r x k j) l = nodeS d e s r x l (j / 2 ^ l : Nat)
  | 0, _ => by simp [riseL]
  | l + 1, hl => by
    have hs : segL (wayL d e s r x k j) l = nodeS d e s r x l (besI j l : Nat) := rowsL_mid (f := fun l => nodeS d e s r x l (besI j l : Nat)) (fun _ => nodeS_len _ _ _ _ _ _ _) k l (by omega)
    have hd : j / 2 ^ (l + 1) = j / 2 ^ l / 2 := by rw [Nat.pow_succ, Nat.div_div_eq_div_mul]
    rw [riseL, riseL_way d e s r x k j l (by omega), hs, hd]
    unfold besI
    generalize j / 2 ^ l = q
    show _ = shortL (joinT d e s r (nodeS d e s r x l (2 * ((q / 2 : Nat) : Int))) (nodeS d e s r x l (2 * ((q / 2 : Nat) : Int) + 1)))
    by_cases hp : q % 2 = 0
    · rw [if_pos hp, if_neg (by omega), show 2 * ((q / 2 : Nat) : Int) = (q : Nat) by omega, show ((q + 1 : Nat) : Int) = (q : Int) + 1 by omega]
    · rw [if_neg hp, if_pos (by omega), show 2 * ((q / 2 : Nat) : Int) = ((q - 1 : Nat) : Int) by omega, show ((q - 1 : Nat) : Int) + 1 = (q : Int) by omega]
theorem showOk_spec {r m i : Int} (h : showOk r m i = true) : rungB r = true ∧ 0 ≤ lev m ∧ 0 ≤ i ∧ i < m := by
  simp [showOk, nodeB] at h
  exact ⟨h.1, h.2.1.1, h.2.1.2, h.2.2⟩
theorem meets_rise (d e s r : Int) (x : List Int) (m i : Int) (h : showOk r m i = true) : riseS d e s r (showS d e s r x m i) m i (showW d e s r x m i) (showN r m i) = nodeS d e s r x (lev m).toNat 0 ∧ riseF r m i (showN r m i) = 0 := by
  obtain ⟨h1, h2, h3, h4⟩ := showOk_spec h
  obtain ⟨k, hk⟩ : ∃ k : Nat, lev m = k := ⟨(lev m).toNat, by omega⟩
  obtain ⟨j, rfl⟩ : ∃ j : Nat, i = j := ⟨i.toNat, by omega⟩
  have hm := (lev_inv hk).1
  have hk2 : (lev m).toNat = k := by omega
  have hj : j < 2 ^ k := by omega
  have hjk : j / 2 ^ k = 0 := Nat.div_eq_of_lt hj
  have e1 := riseL_way d e s r x k j k (Nat.le_refl _)
  rw [hjk] at e1
  constructor
  · have hn : showN r m (j : Int) = k := by simp [showN, h, hk2]
    have e2 : riseOk r m (j : Int) (showN r m (j : Int)) = true := by
      rw [hn]
      simp [riseOk, h, hk]
    unfold riseS
    rw [if_pos e2, hn, hk2]
    simp only [showS, showW, h, if_true, hk2, Int.toNat_natCast]
    exact e1
  · have hn : showN r m (j : Int) = k := by simp [showN, h, hk2]
    rw [hn]
    simp [riseF, h, hk]
theorem meets_up (d e s r : Int) (x : List Int) (m i : Int) (h : showOk r m i = true) : upS d e s r x m = nodeS d e s r x (lev m).toNat 0 ∧ upF r m = 0 := by
  obtain ⟨h1, h2, h3, h4⟩ := showOk_spec h
  have hr : rightB r m = true := by simp [rightB, h1, h2]
  simp [upS, upF, hr]
/-- A way that stands somewhere; with what stands beside it. -/
def WayS (w : World) (v : Value) (n : Nat) (l : List Int) : Prop := ∃ a c, v = .slice a n c ∧ HoldsS w (.slice a n c) n l ∧ ∀ x, a = some x → x.block < w.heap.size
def TupS (w : World) (v : Value) (z : List Int) (q : Int) (n : Nat) (l : List Int) : Prop := ∃ a c, v = .tuple #[dgV z, .slice a n c, .int .i64 q] ∧ HoldsS w (.slice a n c) n l ∧ ∀ x, a = some x → x.block < w.heap.size
theorem WayS.keep {w w' : World} {v : Value} {n : Nat} {l : List Int} (h : WayS w v n l) (hb : Below w.heap.size w w') : WayS w' v n l := by
  obtain ⟨a, c, e, h1, h2⟩ := h
  exact ⟨a, c, e, h1.keep hb, fun x hx => Nat.lt_of_lt_of_le (h2 x hx) hb.size⟩
theorem TupS.keep {w w' : World} {v : Value} {z : List Int} {q : Int} {n : Nat} {l : List Int} (h : TupS w v z q n l) (hb : Below w.heap.size w w') : TupS w' v z q n l := by
  obtain ⟨a, c, e, h1, h2⟩ := h
  exact ⟨a, c, e, h1.keep hb, fun x hx => Nat.lt_of_lt_of_le (h2 x hx) hb.size⟩
theorem tup_off {g : Nat} {z q : Value} {a : Option Addr} {n c : Nat} (h : ∀ x, a = some x → x.block ≠ g) : Off g (.tuple #[z, .slice a n c, q]) := by
  cases a with
  | none => trivial
  | some x => exact h x rfl
theorem tup_slice {g : Nat} {z q : Value} {a : Option Addr} {n c : Nat} (h : Off g (.tuple #[z, .slice a n c, q])) : Off g (.slice a n c) := by
  cases a with
  | none => trivial
  | some x => exact h
theorem slice_off {g : Nat} {a : Option Addr} {n c : Nat} (h : ∀ x, a = some x → x.block ≠ g) : Off g (.slice a n c) := by
  cases a with
  | none => trivial
  | some x => exact h x rfl
theorem WayS.off {w : World} {v : Value} {n : Nat} {l : List Int} (h : WayS w v n l) : Off w.heap.size v := by
  obtain ⟨a, c, rfl, _, h2⟩ := h
  exact slice_off fun x hx => by have := h2 x hx; omega
theorem TupS.off {w : World} {v : Value} {z : List Int} {q : Int} {n : Nat} {l : List Int} (h : TupS w v z q n l) : Off w.heap.size v := by
  obtain ⟨a, c, rfl, _, h2⟩ := h
  exact tup_off fun x hx => by have := h2 x hx; omega
theorem HoldsS.off {w : World} {a : Option Addr} {n c : Nat} {l : List Int} {g : Nat} (h : HoldsS w (.slice a n c) n l) (ho : Off g (.slice a n c)) (cs : Array Value) : HoldsS (w.setRow g cs) (.slice a n c) n l := by
  obtain ⟨a', c', e, h1, h2, h3, h4⟩ := h
  refine ⟨a', c', e, h1, h2, h3, fun h0 => ?_⟩
  obtain ⟨b, off, ha, hlt, hc⟩ := h4 h0
  simp only [Value.slice.injEq] at e
  obtain ⟨rfl, -⟩ := e
  subst ha
  have hne : b ≠ g := ho
  refine ⟨b, off, rfl, by simpa [World.setRow] using hlt, fun j hj => ?_⟩
  exact (World.cell?_of_block (w := w) (a := ⟨b, off + j, Option.none⟩) (setRow_ne cs hne)).trans (hc j hj)
theorem HoldsS.drew {w : World} {v : Value} {n : Nat} {l : List Int} (h : HoldsS w v n l) : HoldsS w.drew v n l := h
theorem wayb_off {a : Option Addr} {M g n c : Nat} (h : ∀ x, a = some x → x.block < M) (hg : M ≤ g) : Off g (.slice a n c) := slice_off fun x hx => by have := h x hx; omega
set_option maxRecDepth 100000 in
set_option maxHeartbeats 4000000 in
theorem ladderMeets_walk (x0_0 x0_1 x0_2 : Int) (x1 x2 x3 : Int) (x4 : List Int) (w : World) (_w0_0 : (Lit.int .i64 x0_0).wf = true) (w0_1 : (Lit.int .u32 x0_1).wf = true) (w0_2 : (Lit.int .u32 x0_2).wf = true) (_w1 : (Lit.int .i64 x1).wf = true) (_w2 : (Lit.int .i64 x2).wf = true) (_w3 : (Lit.int .i64 x3).wf = true) (l4 : x4.length = 16) (b4 : Bytes x4) (hk : KonIs w) :
    Calls Tryd.prog 10 #[plV x0_0 x0_1 x0_2, .int .i64 x1, .int .i64 x2, .int .i64 x3, dgV x4] w fun e w' => e = .returned (.bool true) ∧ Below w.heap.size w w' := by
  have HE := Kp.mk (u32_wf w0_1)
  have HS := Kp.mk (u32_wf w0_2)
  have HX := Kp.mk l4
  have HXB := Kp.mk b4
  have HK := Kp.mk hk
  clear _w0_0 w0_1 w0_2 _w1 _w2 _w3 l4 b4 hk
  obtain ⟨z, hz⟩ : ∃ z, z = showS x0_0 x0_1 x0_2 x1 x4 x2 x3 := ⟨_, rfl⟩
  obtain ⟨q, hq⟩ : ∃ q, q = showF x1 x2 x3 := ⟨_, rfl⟩
  obtain ⟨n, hn⟩ : ∃ n, n = showN x1 x2 x3 := ⟨_, rfl⟩
  obtain ⟨Wl, hw⟩ : ∃ l, l = showW x0_0 x0_1 x0_2 x1 x4 x2 x3 := ⟨_, rfl⟩
  have HL_z : Kp (z.length = 16 ∧ Bytes z) := ⟨by rw [hz]; exact ⟨showS_len _ _ _ _ _ _ _, showS_bytes _ _ _ _ _ _ _⟩⟩
  have HZQ := Kp.mk (And.intro hz (And.intro hq (And.intro hn hw)))
  clear hz hq hn hw
  obtain ⟨A, hA⟩ : ∃ A, A = w.heap.size := ⟨_, rfl⟩
  have HA := Kp.mk hA
  go_enter Tryd.func10, Tryd.ntmps10
  go_wp2_with fail
  rw [← hA]
  refine wp_world (fun W => Blk W A (.cells #[.int .i64 x0_0, .int .u32 x0_1, .int .u32 x0_2] 48) ∧ Row W (A + 1) 32 .u8 x4 ∧ Below A w W) ⟨Blk.old (Blk.newAt _ hA) _, Blk.newAt _ (by simp [hA]), by rw [hA]; exact more (more (Below.refl _ _) _) _⟩ ?_
  clear hA
  rintro W1 ⟨g1, g2, g4⟩
  have P1 := Kp.mk g1
  have R1_e := Kp.mk g2
  have B1 := Kp.mk g4
  clear g1 g2 g4
  obtain ⟨M1, hM⟩ : ∃ M, M = W1.heap.size := ⟨_, rfl⟩
  have hbA1 : A < M1 := by rw [hM]; exact P1.out.lt
  have hb1_e : A + 1 < M1 := by rw [hM]; exact R1_e.out.lt
  have HM1 : Kp (M1 ≤ W1.heap.size) := ⟨Nat.le_of_eq hM⟩
  have HMe1 := Kp.mk hM
  clear hM
  refine wp_region_predR (fun w' => Blk w' A (.cells #[.int .i64 x0_0, .int .u32 x0_1, .int .u32 x0_2] 48) ∧ Row w' (A + 1) 32 .u8 x4 ∧ M1 ≤ w'.heap.size ∧ Below A w w') [0, 1, 2, 3, 4, 5, 6, 7, 8, 9, 10, 11] [9, 10] [12, 13, 14]
    (fun ι w' v => match ι with
      | 0 | 1 => v = plV x0_0 x0_1 x0_2
      | 2 => v = .int .i64 x1
      | 3 => v = dgV x4
      | 4 => v = .int .i64 x2
      | 5 => v = .int .i64 x3
      | 8 => v = dgV z
      | 10 => v = .int .i64 q
      | 6 => TupS w' v z q n Wl
      | 7 => TupS w' v z q n Wl
      | 9 => WayS w' v n Wl
      | 11 => ∃ g, v = .pointer (some ⟨g, 0, none⟩) ∧ M1 ≤ g ∧ Row w' g 33 .u8 (fill 16 [])
      | _ => v = .bool true)
    (Apt 11)
    [[], [(0, some 19)], [], [], [], [], [(1, some 20), (2, some 21), (3, some 22), (4, some 23), (5, some 24)], [(6, some 25)], [(7, some 18)], [(7, some 18)], [(7, some 18)], []]
    [[(7, some 18)], [(7, some 18)]]
    [(0, some 19), (1, some 20), (2, some 21), (3, some 22), (4, some 23), (5, some 24), (6, some 25), (7, some 18), (8, some 26), (9, some 27), (10, some 28), (11, some 11)]
    (by kernel_rfl) (by kernel_rfl) (by kernel_rfl) (by kernel_rfl) (by kernel_rfl) (by kernel_rfl) (by kernel_rfl) (by decide) (by decide) (fun w1 w2 h hb => ⟨h.1.keep hb, h.2.1.keep hb, Nat.le_trans h.2.2.1 hb.size, h.2.2.2.trans (hb.mono (Nat.le_of_lt h.1.lt))⟩) (fun c a w d v h => by cases d <;> exact h) (Apt.symm _) ?_ ⟨P1.out.draw, R1_e.out.drew, HM1.out, B1.out.drew⟩ ?_ ?_ ?_
  · intro ι w1 w2 v h hb
    by_cases h6 : ι = 6
    · subst h6
      exact TupS.keep h hb
    by_cases h7 : ι = 7
    · subst h7
      exact TupS.keep h hb
    by_cases h9 : ι = 9
    · subst h9
      exact WayS.keep h hb
    by_cases h11 : ι = 11
    · subst h11
      exact (by obtain ⟨g, e, h1, hg⟩ := h; exact ⟨g, e, h1, hg.keep hb⟩)
    match ι, h6, h7, h9, h11, h with
    | 0, _, _, _, _, h => exact h
    | 1, _, _, _, _, h => exact h
    | 2, _, _, _, _, h => exact h
    | 3, _, _, _, _, h => exact h
    | 4, _, _, _, _, h => exact h
    | 5, _, _, _, _, h => exact h
    | 6, g, _, _, _, h => exact absurd rfl g
    | 7, _, g, _, _, h => exact absurd rfl g
    | 8, _, _, _, _, h => exact h
    | 9, _, _, g, _, h => exact absurd rfl g
    | 10, _, _, _, _, h => exact h
    | 11, _, _, _, g, h => exact absurd rfl g
    | _ + 12, _, _, _, _, h => exact h
  · refine ⟨fun γ wx hS h => ?_, fun γ wx hS h => ?_, fun γ wx hS h => ?_, fun γ wx hS h => ?_, fun γ wx hS h => ?_, fun γ wx hS h => ?_, fun γ wx hS h => ?_, fun γ wx hS h => ?_, fun γ wx hS h => ?_, fun γ wx hS h => ?_, fun γ wx hS h => ?_, fun γ wx hS h => ?_, trivial⟩
    · refine ⟨_, rfl, Or.inl ⟨rfl, predRun_value (exec_load_blk 48 (.tmp 5) rfl (A) rfl 48 _ (0, 0) _ hS.1 Tryd.underlying48 rfl (cells48 x0_0 x0_1 x0_2)) ⟨rfl, fun j u hj hu hd => ⟨fun _ _ _ => trivial, fun e => absurd e (by decide)⟩⟩⟩⟩
    · have h0 := h
      have e0 : γ 0 = plV x0_0 x0_1 x0_2 := h0
      refine ⟨_, rfl, Or.inl ⟨rfl, predRun_call (f := 32) (args := #[plV x0_0 x0_1 x0_2]) (by simp only [putE, e0]; go_simp) ?_⟩⟩
      exact (to_any x0_0 x0_1 x0_2 wx).mono fun e w2 ⟨h1, h2⟩ => ⟨_, h1, ⟨rfl, fun j u hj hu hd => ⟨fun _ _ _ => trivial, fun e => absurd e (by decide)⟩⟩, h2⟩
    · refine ⟨_, rfl, Or.inl ⟨rfl, predRun_value (v := .int .i64 x1) (by simp only [putE]; first | rfl | (go_simp; done) | (go_simp; with_reducible rfl) | (go_simp; rfl)) ⟨rfl, fun j u hj hu hd => ⟨fun _ _ _ => trivial, fun e => absurd e (by decide)⟩⟩⟩⟩
    · refine ⟨_, rfl, Or.inl ⟨rfl, predRun_value (exec_load_blk 32 (.tmp 9) rfl (A + 1) rfl 32 _ (0, 0) _ hS.2.1 Tryd.underlying32 rfl (cells49 HX.out)) ⟨rfl, fun j u hj hu hd => ⟨fun _ _ _ => trivial, fun e => absurd e (by decide)⟩⟩⟩⟩
    · refine ⟨_, rfl, Or.inl ⟨rfl, predRun_value (v := .int .i64 x2) (by simp only [putE]; first | rfl | (go_simp; done) | (go_simp; with_reducible rfl) | (go_simp; rfl)) ⟨rfl, fun j u hj hu hd => ⟨fun _ _ _ => trivial, fun e => absurd e (by decide)⟩⟩⟩⟩
    · refine ⟨_, rfl, Or.inl ⟨rfl, predRun_value (v := .int .i64 x3) (by simp only [putE]; first | rfl | (go_simp; done) | (go_simp; with_reducible rfl) | (go_simp; rfl)) ⟨rfl, fun j u hj hu hd => ⟨fun _ _ _ => trivial, fun e => absurd e (by decide)⟩⟩⟩⟩
    · obtain ⟨h1, h2, h3, h4, h5⟩ := h
      have e1 : γ 1 = plV x0_0 x0_1 x0_2 := h1
      have e2 : γ 2 = .int .i64 x1 := h2
      have e3 : γ 3 = dgV x4 := h3
      have e4 : γ 4 = .int .i64 x2 := h4
      have e5 : γ 5 = .int .i64 x3 := h5
      refine ⟨_, rfl, Or.inl ⟨rfl, predRun_call (f := 44) (args := #[plV x0_0 x0_1 x0_2, .int .i64 x1, dgV x4, .int .i64 x2, .int .i64 x3]) (by simp only [putE, e1, e2, e3, e4, e5]; go_simp) ?_⟩⟩
      refine (show_any x0_0 x0_1 x0_2 x1 x4 x2 x3 wx (HK.out.keep (by rw [← HA.out]; exact hS.2.2.2)) HE.out HS.out HX.out HXB.out).mono ?_
      rintro e w2 ⟨v', h1, h2, h3, h4⟩
      rw [← HZQ.out.1, ← HZQ.out.2.1] at h1
      rw [← HZQ.out.2.2.1, ← HZQ.out.2.2.2] at h2
      obtain ⟨a, c, rfl, -⟩ := id h2
      refine ⟨_, h1, ⟨⟨a, c, rfl, h2, fun x hx => (h3 x n c (by rw [hx])).2⟩, ?_⟩, h4⟩
      intro j u hj hu hd
      refine ⟨fun ej g eg => ?_, fun e => absurd e (by decide)⟩
      subst ej
      obtain ⟨g', e', _, hr⟩ := hu
      obtain rfl : g = g' := by rw [eg] at e'; simpa using e'
      have := hr.lt
      exact tup_off fun x hx => by have := (h3 x n c (by rw [hx])).1; omega
    · have h6 := h
      have p6 : TupS wx (γ 6) z q n Wl := h6
      obtain ⟨a, c, e6, h1, h2⟩ := p6
      refine ⟨_, rfl, Or.inl ⟨rfl, predRun_value (v := .tuple #[dgV z, .slice a n c, .int .i64 q]) (by simp only [putE, e6]; first | rfl | (go_simp; done) | (go_simp; rfl)) ⟨⟨a, c, rfl, h1, h2⟩, fun j u hj hu hd => ⟨fun ej g eg => ?_, fun e => absurd e (by decide)⟩⟩⟩⟩
      have h9 := (hd (6, some 25) (by simp) (by rw [ej]; decide)).1 ej g eg
      rw [e6] at h9
      exact h9
    · have h7 := h
      have p7 : TupS wx (γ 7) z q n Wl := h7
      obtain ⟨a, c, e7, h1, h2⟩ := p7
      refine ⟨_, rfl, Or.inl ⟨rfl, predRun_value (v := dgV z) (by simp only [putE, e7]; first | rfl | (go_simp; done) | (go_simp; rfl)) ⟨rfl, fun j u hj hu hd => ⟨fun _ _ _ => trivial, fun e => absurd e (by decide)⟩⟩⟩⟩
    · have h7 := h
      have p7 : TupS wx (γ 7) z q n Wl := h7
      obtain ⟨a, c, e7, h1, h2⟩ := p7
      refine ⟨_, rfl, Or.inl ⟨rfl, predRun_value (v := .slice a n c) (by simp only [putE, e7]; first | rfl | (go_simp; done) | (go_simp; rfl)) ⟨⟨a, c, rfl, h1, h2⟩, fun j u hj hu hd => ⟨fun ej g eg => ?_, fun e => absurd e (by decide)⟩⟩⟩⟩
      have h9 := (hd (7, some 18) (by simp) (by rw [ej]; decide)).1 ej g eg
      rw [e7] at h9
      exact tup_slice h9
    · have h7 := h
      have p7 : TupS wx (γ 7) z q n Wl := h7
      obtain ⟨a, c, e7, h1, h2⟩ := p7
      refine ⟨_, rfl, Or.inl ⟨rfl, predRun_value (v := .int .i64 q) (by simp only [putE, e7]; first | rfl | (go_simp; done) | (go_simp; rfl)) ⟨rfl, fun j u hj hu hd => ⟨fun _ _ _ => trivial, fun e => absurd e (by decide)⟩⟩⟩⟩
    · refine ⟨_, rfl, Or.inl ⟨rfl, predRun_new (w' := wx.alloc z50) (v := .pointer (some ⟨wx.heap.size, 0, none⟩)) (by simp only [putE]; first | rfl | (go_simp; done) | (go_simp; rfl)) (more (Below.refl _ _) _) ⟨⟨_, rfl, hS.2.2.1, Blk.new _ _⟩, ?_⟩⟩⟩
      refine fun j u hj hu hd => ⟨fun e => absurd e hj, fun _ g eg => ?_⟩
      obtain rfl : wx.heap.size = g := by simpa using eg
      exact match j, hu with
        | 0, hu => by rw [show u = plV x0_0 x0_1 x0_2 from hu]; trivial
        | 1, hu => by rw [show u = plV x0_0 x0_1 x0_2 from hu]; trivial
        | 2, hu => by rw [show u = .int .i64 x1 from hu]; trivial
        | 3, hu => by rw [show u = dgV x4 from hu]; trivial
        | 4, hu => by rw [show u = .int .i64 x2 from hu]; trivial
        | 5, hu => by rw [show u = .int .i64 x3 from hu]; trivial
        | 6, hu => TupS.off hu
        | 7, hu => TupS.off hu
        | 8, hu => by rw [show u = dgV z from hu]; trivial
        | 9, hu => WayS.off hu
        | 10, hu => by rw [show u = .int .i64 q from hu]; trivial
        | 11, hu => absurd rfl hj
        | _ + 12, hu => by rw [show u = .bool true from hu]; trivial
  · refine ⟨fun γ wx hS h => ?_, fun γ wx hS h => ?_, trivial⟩
    · have h7 := h
      have p7 : TupS wx (γ 7) z q n Wl := h7
      obtain ⟨a, c, e7, h1, h2⟩ := p7
      refine ⟨_, .slice a n c, rfl, Or.inl ⟨rfl, fun wz => by simp only [putE, e7]; first | rfl | (go_simp; done) | (go_simp; rfl)⟩, ⟨a, c, rfl, h1, h2⟩, fun j u hj hu hd => ⟨fun ej g eg => ?_, fun e => absurd e (by decide)⟩⟩
      have h9 := (hd (7, some 18) (by simp) (by rw [ej]; decide)).1 ej g eg
      rw [e7] at h9
      exact tup_slice h9
    · have h7 := h
      have p7 : TupS wx (γ 7) z q n Wl := h7
      obtain ⟨a, c, e7, h1, h2⟩ := p7
      refine ⟨_, .int .i64 q, rfl, Or.inl ⟨rfl, fun wz => by simp only [putE, e7]; first | rfl | (go_simp; done) | (go_simp; rfl)⟩, rfl, fun j u hj hu hd => ⟨fun _ _ _ => trivial, fun e => absurd e (by decide)⟩⟩
  · intro γ w9 hS h hT
    have ez : γ 8 = dgV z := h.2.2.2.2.2.2.2.2.1
    have e10 : γ 10 = .int .i64 q := h.2.2.2.2.2.2.2.2.2.2.1
    obtain ⟨a, c, ew, pw⟩ : WayS w9 (γ 9) n Wl := h.2.2.2.2.2.2.2.2.2.1
    obtain ⟨g1, ep, hMg, hg⟩ : ∃ g, γ 11 = .pointer (some ⟨g, 0, none⟩) ∧ M1 ≤ g ∧ Row w9 g 33 .u8 (fill 16 []) := h.2.2.2.2.2.2.2.2.2.2.2
    have hoff := (hT 9 (by decide) 11 (by decide) (by decide)).1 rfl g1 ep
    rw [ew] at hoff
    simp only [putE, Act.put, List.setIfInBounds_toArray, List.set_cons_zero, List.set_cons_succ]
    rw [ez, ep, e10, ew]
    have HGA : Kp (Row w9 g1 33 .u8 (fill 16 [])) := ⟨hg⟩
    obtain ⟨W2, hW9⟩ : ∃ W, W = w9.setRow g1 (kv .u8 z).toArray := ⟨_, rfl⟩
    have P2 : Kp (Blk W2 A (.cells #[.int .i64 x0_0, .int .u32 x0_1, .int .u32 x0_2] 48)) := ⟨by rw [hW9]; exact (setRow_other _ g1 A _ (by omega)).trans hS.1⟩
    have R2_e : Kp (Row W2 (A + 1) 32 .u8 x4) := ⟨by rw [hW9]; exact Row.otherRow hS.2.1 (by omega) _⟩
    have R2_g1 : Kp (Row W2 (g1) 33 .u8 z) := ⟨by rw [hW9]; exact HGA.out.setRow z⟩
    have Y2 : Kp (HoldsS W2 (.slice a n c) n Wl) := ⟨by rw [hW9]; exact pw.1.off hoff _⟩
    have YB : Kp (∀ x, a = some x → x.block < W2.heap.size) := ⟨by rw [hW9]; simpa [World.setRow] using pw.2⟩
    have B2 : Kp (Below A w W2) := ⟨by rw [hW9]; exact Below.row hS.2.2.2 (by omega) _⟩
    have HMg1 := Kp.mk hMg
    have HWk := Kp.mk hW9
    clear h hS ez ep hg hW9 P1 B1 HM1 HMe1 hMg hbA1 R1_e hb1_e e10  hT ew pw hoff
    refine wpOps_step rfl rfl ?_
    refine wp_store_rowD rfl 33 (.tmp 11) (.tmp 26) rfl g1 (kv .u8 z).toArray rfl rfl 33 _ HGA.out (cells50 HL_z.out.1) (size50 HL_z.out.1) (kv_all _ _) ?_
    rw [← HWk.out]
    clear HWk HGA
    refine wpOps_step rfl rfl ?_
    refine wp_assign_endD (d := some 12) (v := .slice a n c) rfl rfl rfl ?_
    simp only [Act.put, List.setIfInBounds_toArray, List.set_cons_zero, List.set_cons_succ]
    refine wpOps_step rfl rfl ?_
    refine wp_assign_endD (d := some 13) (v := .int .i64 q) rfl rfl rfl ?_
    simp only [Act.put, List.setIfInBounds_toArray, List.set_cons_zero, List.set_cons_succ]
    refine wpOps_done ?_
    cases hok : showOk x1 x2 x3 with
    | false =>
      have hq : q = 1 := by rw [HZQ.out.2.1]; simp [showF, hok]
      have hn : n = 0 := by rw [HZQ.out.2.2.1]; simp [showN, hok]
      have hz : z = fill 16 [] := by rw [HZQ.out.1]; simp [showS, hok]
      have HZ1 : Kp (Row W2 g1 33 .u8 (fill 16 [])) := ⟨by rw [← hz]; exact R2_g1.out⟩
      have HC0 : Kp ((fill 16 [] : List Int).length = 16) := ⟨rfl⟩
      subst hq hn
      clear hok hz
      go_wp2_with fail
      refine (awake6 W2 (HK.out.keep (by rw [← HA.out]; exact B2.out))).mono ?_
      rintro r w5 ⟨rfl, hb⟩
      have HZ2 := Kp.mk (HZ1.out.keep hb)
      have B9 : Kp (Below A w w5) := ⟨B2.out.trans (hb.mono (Nat.le_of_lt P2.out.lt))⟩
      have hq : ∀ w, (binOp .eql 33 (dgV (fill 16 [])) (.agg #[.int .u8 0, .int .u8 0, .int .u8 0, .int .u8 0, .int .u8 0, .int .u8 0, .int .u8 0, .int .u8 0, .int .u8 0, .int .u8 0, .int .u8 0, .int .u8 0, .int .u8 0, .int .u8 0, .int .u8 0, .int .u8 0])).run Tryd.prog w = .ok (.bool true) w := fun w => eql50 (p := fill 16 []) (fill_bytes (fun x hx => by simp at hx)) rfl w
      have hg : ∀ (x y : Operand) (w : World), (eqGuard .eql 33 x y (dgV (fill 16 [])) (.agg #[.int .u8 0, .int .u8 0, .int .u8 0, .int .u8 0, .int .u8 0, .int .u8 0, .int .u8 0, .int .u8 0, .int .u8 0, .int .u8 0, .int .u8 0, .int .u8 0, .int .u8 0, .int .u8 0, .int .u8 0, .int .u8 0])).run Tryd.prog w = .ok () w := fun x y w => eqg50 (fill 16 []) (fill 16 []) x y w
      clear hb
      go_wp2_with (refine wpList_load_rowG rfl 33 (.tmp 11) rfl g1 rfl 33 _ (0, 0) _ HZ2.out Tryd.underlying33 rfl (cells50 HC0.out) ?_)
      clear hq hg
      go_ret
      exact ⟨rfl, by rw [← HA.out]; exact B9.out⟩
    | true =>
      have hq : q = 0 := by rw [HZQ.out.2.1]; simp [showF, hok]
      have HOK := Kp.mk hok
      subst hq
      clear hok
      obtain ⟨z4, hz4⟩ : ∃ z4, z4 = nodeS x0_0 x0_1 x0_2 x1 x4 (lev x2).toNat 0 := ⟨_, rfl⟩
      have HL_z4 : Kp (z4.length = 16 ∧ Bytes z4) := ⟨by rw [hz4]; exact ⟨nodeS_len _ _ _ _ _ _ _, nodeS_bytes _ _ _ _ _ _ _⟩⟩
      have HR4 : Kp (riseS x0_0 x0_1 x0_2 x1 z x2 x3 Wl n = z4 ∧ riseF x1 x2 x3 n = 0) := ⟨by rw [hz4, HZQ.out.1, HZQ.out.2.2.1, HZQ.out.2.2.2]; exact meets_rise x0_0 x0_1 x0_2 x1 x4 x2 x3 HOK.out⟩
      have HR5 : Kp (upS x0_0 x0_1 x0_2 x1 x4 x2 = z4 ∧ upF x1 x2 = 0) := ⟨by rw [hz4]; exact meets_up x0_0 x0_1 x0_2 x1 x4 x2 x3 HOK.out⟩
      clear hz4
      obtain ⟨M2, hM⟩ : ∃ M, M = W2.heap.size := ⟨_, rfl⟩
      have hbA2 : A < M2 := by rw [hM]; exact P2.out.lt
      have hb2_e : A + 1 < M2 := by rw [hM]; exact R2_e.out.lt
      have hb2_g1 : g1 < M2 := by rw [hM]; exact R2_g1.out.lt
      have HM2 : Kp (M2 ≤ W2.heap.size) := ⟨Nat.le_of_eq hM⟩
      have HMe2 := Kp.mk hM
      clear hM
      have HWB : Kp (∀ x, a = some x → x.block < M2) := ⟨by rw [HMe2.out]; exact YB.out⟩
      go_wp2_with fail
      refine wp_region_predQ (fun w' => Blk w' A (.cells #[.int .i64 x0_0, .int .u32 x0_1, .int .u32 x0_2] 48) ∧ Row w' (A + 1) 32 .u8 x4 ∧ Row w' (g1) 33 .u8 z ∧ HoldsS w' (.slice a n c) n Wl ∧ M2 ≤ w'.heap.size ∧ Below A w w') [0, 1, 2, 3, 4, 5, 6, 7, 8, 9, 10, 11] [10] [12, 13]
        (fun ι w' v => match ι with
          | 0 | 1 => v = plV x0_0 x0_1 x0_2
          | 2 => v = .int .i64 x1
          | 3 => v = .int .i64 x2
          | 4 => v = .int .i64 x3
          | 5 => v = dgV z
          | 6 => v = .slice a n c
          | 7 | 8 => v = .tuple #[dgV z4, .int .i64 0]
          | 9 => v = dgV z4
          | 10 => v = .int .i64 0
          | 11 => ∃ g, v = .pointer (some ⟨g, 0, none⟩) ∧ M2 ≤ g ∧ Row w' g 33 .u8 (fill 16 [])
          | _ => v = .bool true)
        [[], [(0, some 43)], [], [], [], [], [], [(1, some 44), (2, some 45), (3, some 46), (4, some 47), (5, some 48), (6, some 49)], [(7, some 50)], [(8, some 42)], [(8, some 42)], []]
        [[(8, some 42)]]
        [(0, some 43), (1, some 44), (2, some 45), (3, some 46), (4, some 47), (5, some 48), (6, some 49), (7, some 50), (8, some 42), (9, some 51), (10, some 52), (11, some 14)]
        (by kernel_rfl) (by kernel_rfl) (by kernel_rfl) (by kernel_rfl) (by kernel_rfl) (by kernel_rfl) (by kernel_rfl) (by decide) (by decide) (fun w1 w2 h hb => ⟨h.1.keep hb, h.2.1.keep hb, h.2.2.1.keep hb, h.2.2.2.1.keep hb, Nat.le_trans h.2.2.2.2.1 hb.size, h.2.2.2.2.2.trans (hb.mono (Nat.le_of_lt h.1.lt))⟩) (fun c a w d v h => by cases d <;> exact h) ?_ ⟨P2.out.draw, R2_e.out.drew, R2_g1.out.drew, Y2.out.drew, HM2.out, B2.out.drew⟩ ?_ ?_ ?_
      · intro ι w1 w2 v h hb
        by_cases h11 : ι = 11
        · subst h11
          exact (by obtain ⟨g, e, h1, hg⟩ := h; exact ⟨g, e, h1, hg.keep hb⟩)
        match ι, h11, h with
        | 0, _, h => exact h
        | 1, _, h => exact h
        | 2, _, h => exact h
        | 3, _, h => exact h
        | 4, _, h => exact h
        | 5, _, h => exact h
        | 6, _, h => exact h
        | 7, _, h => exact h
        | 8, _, h => exact h
        | 9, _, h => exact h
        | 10, _, h => exact h
        | 11, g, h => exact absurd rfl g
        | _ + 12, _, h => exact h
      · refine ⟨fun γ wx hS h => ?_, fun γ wx hS h => ?_, fun γ wx hS h => ?_, fun γ wx hS h => ?_, fun γ wx hS h => ?_, fun γ wx hS h => ?_, fun γ wx hS h => ?_, fun γ wx hS h => ?_, fun γ wx hS h => ?_, fun γ wx hS h => ?_, fun γ wx hS h => ?_, fun γ wx hS h => ?_, trivial⟩
        · refine ⟨_, rfl, Or.inl ⟨rfl, predRun_value (exec_load_blk 48 (.tmp 5) rfl (A) rfl 48 _ (0, 0) _ hS.1 Tryd.underlying48 rfl (cells48 x0_0 x0_1 x0_2)) rfl⟩⟩
        · have h0 := h
          have e0 : γ 0 = plV x0_0 x0_1 x0_2 := h0
          refine ⟨_, rfl, Or.inl ⟨rfl, predRun_call (f := 32) (args := #[plV x0_0 x0_1 x0_2]) (by simp only [putE, e0]; go_simp) ?_⟩⟩
          exact (to_any x0_0 x0_1 x0_2 wx).mono fun e w2 ⟨h1, h2⟩ => ⟨_, h1, rfl, h2⟩
        · refine ⟨_, rfl, Or.inl ⟨rfl, predRun_value (v := .int .i64 x1) (by simp only [putE]; first | rfl | (go_simp; done) | (go_simp; with_reducible rfl) | (go_simp; rfl)) rfl⟩⟩
        · refine ⟨_, rfl, Or.inl ⟨rfl, predRun_value (v := .int .i64 x2) (by simp only [putE]; first | rfl | (go_simp; done) | (go_simp; with_reducible rfl) | (go_simp; rfl)) rfl⟩⟩
        · refine ⟨_, rfl, Or.inl ⟨rfl, predRun_value (v := .int .i64 x3) (by simp only [putE]; first | rfl | (go_simp; done) | (go_simp; with_reducible rfl) | (go_simp; rfl)) rfl⟩⟩
        · refine ⟨_, rfl, Or.inl ⟨rfl, predRun_value (exec_load_blk 33 (.tmp 11) rfl (g1) rfl 33 _ (0, 0) _ hS.2.2.1 Tryd.underlying33 rfl (cells50 HL_z.out.1)) rfl⟩⟩
        · refine ⟨_, rfl, Or.inl ⟨rfl, predRun_value (v := .slice a n c) (by simp only [putE]; first | rfl | (go_simp; done) | (go_simp; with_reducible rfl) | (go_simp; rfl)) rfl⟩⟩
        · obtain ⟨h1, h2, h3, h4, h5, h6⟩ := h
          have e1 : γ 1 = plV x0_0 x0_1 x0_2 := h1
          have e2 : γ 2 = .int .i64 x1 := h2
          have e3 : γ 3 = .int .i64 x2 := h3
          have e4 : γ 4 = .int .i64 x3 := h4
          have e5 : γ 5 = dgV z := h5
          have e6 : γ 6 = .slice a n c := h6
          refine ⟨_, rfl, Or.inl ⟨rfl, predRun_call (f := 46) (args := #[plV x0_0 x0_1 x0_2, .int .i64 x1, .int .i64 x2, .int .i64 x3, dgV z, .slice a n c]) (by simp only [putE, e1, e2, e3, e4, e5, e6]; go_simp) ?_⟩⟩
          exact (rise_any x0_0 x0_1 x0_2 x1 x2 x3 z a n c Wl wx (HK.out.keep (by rw [← HA.out]; exact hS.2.2.2.2.2)) HE.out HS.out HL_z.out.1 HL_z.out.2 hS.2.2.2.1).mono fun e w2 ⟨h1, h2⟩ => ⟨_, h1, by show Value.tuple _ = Value.tuple _; rw [HR4.out.1, HR4.out.2], h2⟩
        · have h7 := h
          have e7 : γ 7 = .tuple #[dgV z4, .int .i64 0] := h7
          refine ⟨_, rfl, Or.inl ⟨rfl, predRun_value (v := .tuple #[dgV z4, .int .i64 0]) (by simp only [putE, e7]; first | rfl | (go_simp; done) | (go_simp; with_reducible rfl) | (go_simp; rfl)) rfl⟩⟩
        · have h8 := h
          have e8 : γ 8 = .tuple #[dgV z4, .int .i64 0] := h8
          refine ⟨_, rfl, Or.inl ⟨rfl, predRun_value (v := dgV z4) (by simp only [putE, e8]; first | rfl | (go_simp; done) | (go_simp; with_reducible rfl) | (go_simp; rfl)) rfl⟩⟩
        · have h8 := h
          have e8 : γ 8 = .tuple #[dgV z4, .int .i64 0] := h8
          refine ⟨_, rfl, Or.inl ⟨rfl, predRun_value (v := .int .i64 0) (by simp only [putE, e8]; first | rfl | (go_simp; done) | (go_simp; with_reducible rfl) | (go_simp; rfl)) rfl⟩⟩
        · refine ⟨_, rfl, Or.inl ⟨rfl, predRun_new (w' := wx.alloc z50) (v := .pointer (some ⟨wx.heap.size, 0, none⟩)) (by simp only [putE]; first | rfl | (go_simp; done) | (go_simp; rfl)) (more (Below.refl _ _) _) ⟨_, rfl, hS.2.2.2.2.1, Blk.new _ _⟩⟩⟩
      · refine ⟨fun γ wx hS h => ?_, trivial⟩
        · have h8 := h
          have e8 : γ 8 = .tuple #[dgV z4, .int .i64 0] := h8
          refine ⟨_, .int .i64 0, rfl, Or.inl ⟨rfl, fun wz => by simp only [putE, e8]; first | rfl | (go_simp; done) | (go_simp; rfl)⟩, rfl⟩
      · intro γ w9 hS h
        have ez : γ 9 = dgV z4 := h.2.2.2.2.2.2.2.2.2.1
        have e10 : γ 10 = .int .i64 0 := h.2.2.2.2.2.2.2.2.2.2.1
        obtain ⟨g4, ep, hMg, hg⟩ : ∃ g, γ 11 = .pointer (some ⟨g, 0, none⟩) ∧ M2 ≤ g ∧ Row w9 g 33 .u8 (fill 16 []) := h.2.2.2.2.2.2.2.2.2.2.2
        simp only [putE, Act.put, List.setIfInBounds_toArray, List.set_cons_zero, List.set_cons_succ]
        rw [ez, ep, e10]
        have HGA : Kp (Row w9 g4 33 .u8 (fill 16 [])) := ⟨hg⟩
        obtain ⟨W3, hW9⟩ : ∃ W, W = w9.setRow g4 (kv .u8 z4).toArray := ⟨_, rfl⟩
        have P3 : Kp (Blk W3 A (.cells #[.int .i64 x0_0, .int .u32 x0_1, .int .u32 x0_2] 48)) := ⟨by rw [hW9]; exact (setRow_other _ g4 A _ (by omega)).trans hS.1⟩
        have R3_e : Kp (Row W3 (A + 1) 32 .u8 x4) := ⟨by rw [hW9]; exact Row.otherRow hS.2.1 (by omega) _⟩
        have R3_g1 : Kp (Row W3 (g1) 33 .u8 z) := ⟨by rw [hW9]; exact Row.otherRow hS.2.2.1 (by omega) _⟩
        have R3_g4 : Kp (Row W3 (g4) 33 .u8 z4) := ⟨by rw [hW9]; exact HGA.out.setRow z4⟩
        have Y3 : Kp (HoldsS W3 (.slice a n c) n Wl) := ⟨by rw [hW9]; exact hS.2.2.2.1.off (wayb_off HWB.out (by omega)) _⟩
        have B3 : Kp (Below A w W3) := ⟨by rw [hW9]; exact Below.row hS.2.2.2.2.2 (by omega) _⟩
        have HMg2 := Kp.mk hMg
        have HWk := Kp.mk hW9
        clear h hS ez ep hg hW9 P2 B2 HM2 HMe2 hMg hbA2 R2_e hb2_e R2_g1 hb2_g1 e10 Y2
        refine wpOps_step rfl rfl ?_
        refine wp_store_rowD rfl 33 (.tmp 14) (.tmp 51) rfl g4 (kv .u8 z4).toArray rfl rfl 33 _ HGA.out (cells50 HL_z4.out.1) (size50 HL_z4.out.1) (kv_all _ _) ?_
        rw [← HWk.out]
        clear HWk HGA
        refine wpOps_step rfl rfl ?_
        refine wp_assign_endD (d := some 15) (v := .int .i64 0) rfl rfl rfl ?_
        simp only [Act.put, List.setIfInBounds_toArray, List.set_cons_zero, List.set_cons_succ]
        refine wpOps_done ?_
        obtain ⟨M3, hM⟩ : ∃ M, M = W3.heap.size := ⟨_, rfl⟩
        have hbA3 : A < M3 := by rw [hM]; exact P3.out.lt
        have hb3_e : A + 1 < M3 := by rw [hM]; exact R3_e.out.lt
        have hb3_g1 : g1 < M3 := by rw [hM]; exact R3_g1.out.lt
        have hb3_g4 : g4 < M3 := by rw [hM]; exact R3_g4.out.lt
        have HM3 : Kp (M3 ≤ W3.heap.size) := ⟨Nat.le_of_eq hM⟩
        have HMe3 := Kp.mk hM
        clear hM
        have hMM : M2 ≤ M3 := by have := HMg2.out; omega
        have HWB : Kp (∀ x, a = some x → x.block < M3) := ⟨fun x hx => by have := HWB.out x hx; omega⟩
        clear hMM
        go_wp2_with fail
        refine wp_region_predQ (fun w' => Blk w' A (.cells #[.int .i64 x0_0, .int .u32 x0_1, .int .u32 x0_2] 48) ∧ Row w' (A + 1) 32 .u8 x4 ∧ Row w' (g1) 33 .u8 z ∧ Row w' (g4) 33 .u8 z4 ∧ HoldsS w' (.slice a n c) n Wl ∧ M3 ≤ w'.heap.size ∧ Below A w w') [0, 1, 2, 3, 4, 5, 6, 7, 8, 9] [8] [10, 11]
          (fun ι w' v => match ι with
            | 0 | 1 => v = plV x0_0 x0_1 x0_2
            | 2 => v = .int .i64 x1
            | 3 => v = dgV x4
            | 4 => v = .int .i64 x2
            | 5 | 6 => v = .tuple #[dgV z4, .int .i64 0]
            | 7 => v = dgV z4
            | 8 => v = .int .i64 0
            | 9 => ∃ g, v = .pointer (some ⟨g, 0, none⟩) ∧ M3 ≤ g ∧ Row w' g 33 .u8 (fill 16 [])
            | _ => v = .bool true)
          [[], [(0, some 54)], [], [], [], [(1, some 55), (2, some 56), (3, some 57), (4, some 58)], [(5, some 59)], [(6, some 53)], [(6, some 53)], []]
          [[(6, some 53)]]
          [(0, some 54), (1, some 55), (2, some 56), (3, some 57), (4, some 58), (5, some 59), (6, some 53), (7, some 60), (8, some 61), (9, some 16)]
          (by kernel_rfl) (by kernel_rfl) (by kernel_rfl) (by kernel_rfl) (by kernel_rfl) (by kernel_rfl) (by kernel_rfl) (by decide) (by decide) (fun w1 w2 h hb => ⟨h.1.keep hb, h.2.1.keep hb, h.2.2.1.keep hb, h.2.2.2.1.keep hb, h.2.2.2.2.1.keep hb, Nat.le_trans h.2.2.2.2.2.1 hb.size, h.2.2.2.2.2.2.trans (hb.mono (Nat.le_of_lt h.1.lt))⟩) (fun c a w d v h => by cases d <;> exact h) ?_ ⟨P3.out.draw, R3_e.out.drew, R3_g1.out.drew, R3_g4.out.drew, Y3.out.drew, HM3.out, B3.out.drew⟩ ?_ ?_ ?_
        · intro ι w1 w2 v h hb
          by_cases h9 : ι = 9
          · subst h9
            exact (by obtain ⟨g, e, h1, hg⟩ := h; exact ⟨g, e, h1, hg.keep hb⟩)
          match ι, h9, h with
          | 0, _, h => exact h
          | 1, _, h => exact h
          | 2, _, h => exact h
          | 3, _, h => exact h
          | 4, _, h => exact h
          | 5, _, h => exact h
          | 6, _, h => exact h
          | 7, _, h => exact h
          | 8, _, h => exact h
          | 9, g, h => exact absurd rfl g
          | _ + 10, _, h => exact h
        · refine ⟨fun γ wx hS h => ?_, fun γ wx hS h => ?_, fun γ wx hS h => ?_, fun γ wx hS h => ?_, fun γ wx hS h => ?_, fun γ wx hS h => ?_, fun γ wx hS h => ?_, fun γ wx hS h => ?_, fun γ wx hS h => ?_, fun γ wx hS h => ?_, trivial⟩
          · refine ⟨_, rfl, Or.inl ⟨rfl, predRun_value (exec_load_blk 48 (.tmp 5) rfl (A) rfl 48 _ (0, 0) _ hS.1 Tryd.underlying48 rfl (cells48 x0_0 x0_1 x0_2)) rfl⟩⟩
          · have h0 := h
            have e0 : γ 0 = plV x0_0 x0_1 x0_2 := h0
            refine ⟨_, rfl, Or.inl ⟨rfl, predRun_call (f := 32) (args := #[plV x0_0 x0_1 x0_2]) (by simp only [putE, e0]; go_simp) ?_⟩⟩
            exact (to_any x0_0 x0_1 x0_2 wx).mono fun e w2 ⟨h1, h2⟩ => ⟨_, h1, rfl, h2⟩
          · refine ⟨_, rfl, Or.inl ⟨rfl, predRun_value (v := .int .i64 x1) (by simp only [putE]; first | rfl | (go_simp; done) | (go_simp; with_reducible rfl) | (go_simp; rfl)) rfl⟩⟩
          · refine ⟨_, rfl, Or.inl ⟨rfl, predRun_value (exec_load_blk 32 (.tmp 9) rfl (A + 1) rfl 32 _ (0, 0) _ hS.2.1 Tryd.underlying32 rfl (cells49 HX.out)) rfl⟩⟩
          · refine ⟨_, rfl, Or.inl ⟨rfl, predRun_value (v := .int .i64 x2) (by simp only [putE]; first | rfl | (go_simp; done) | (go_simp; with_reducible rfl) | (go_simp; rfl)) rfl⟩⟩
          · obtain ⟨h1, h2, h3, h4⟩ := h
            have e1 : γ 1 = plV x0_0 x0_1 x0_2 := h1
            have e2 : γ 2 = .int .i64 x1 := h2
            have e3 : γ 3 = dgV x4 := h3
            have e4 : γ 4 = .int .i64 x2 := h4
            refine ⟨_, rfl, Or.inl ⟨rfl, predRun_call (f := 31) (args := #[plV x0_0 x0_1 x0_2, .int .i64 x1, dgV x4, .int .i64 x2]) (by simp only [putE, e1, e2, e3, e4]; go_simp) ?_⟩⟩
            exact (up_any x0_0 x0_1 x0_2 x1 x4 x2 wx (HK.out.keep (by rw [← HA.out]; exact hS.2.2.2.2.2.2)) HE.out HS.out HX.out HXB.out).mono fun e w2 ⟨h1, h2⟩ => ⟨_, h1, by show Value.tuple _ = Value.tuple _; rw [HR5.out.1, HR5.out.2], h2⟩
          · have h5 := h
            have e5 : γ 5 = .tuple #[dgV z4, .int .i64 0] := h5
            refine ⟨_, rfl, Or.inl ⟨rfl, predRun_value (v := .tuple #[dgV z4, .int .i64 0]) (by simp only [putE, e5]; first | rfl | (go_simp; done) | (go_simp; with_reducible rfl) | (go_simp; rfl)) rfl⟩⟩
          · have h6 := h
            have e6 : γ 6 = .tuple #[dgV z4, .int .i64 0] := h6
            refine ⟨_, rfl, Or.inl ⟨rfl, predRun_value (v := dgV z4) (by simp only [putE, e6]; first | rfl | (go_simp; done) | (go_simp; with_reducible rfl) | (go_simp; rfl)) rfl⟩⟩
          · have h6 := h
            have e6 : γ 6 = .tuple #[dgV z4, .int .i64 0] := h6
            refine ⟨_, rfl, Or.inl ⟨rfl, predRun_value (v := .int .i64 0) (by simp only [putE, e6]; first | rfl | (go_simp; done) | (go_simp; with_reducible rfl) | (go_simp; rfl)) rfl⟩⟩
          · refine ⟨_, rfl, Or.inl ⟨rfl, predRun_new (w' := wx.alloc z50) (v := .pointer (some ⟨wx.heap.size, 0, none⟩)) (by simp only [putE]; first | rfl | (go_simp; done) | (go_simp; rfl)) (more (Below.refl _ _) _) ⟨_, rfl, hS.2.2.2.2.2.1, Blk.new _ _⟩⟩⟩
        · refine ⟨fun γ wx hS h => ?_, trivial⟩
          · have h6 := h
            have e6 : γ 6 = .tuple #[dgV z4, .int .i64 0] := h6
            refine ⟨_, .int .i64 0, rfl, Or.inl ⟨rfl, fun wz => by simp only [putE, e6]; first | rfl | (go_simp; done) | (go_simp; rfl)⟩, rfl⟩
        · intro γ w9 hS h
          have ez : γ 7 = dgV z4 := h.2.2.2.2.2.2.2.1
          have e8 : γ 8 = .int .i64 0 := h.2.2.2.2.2.2.2.2.1
          obtain ⟨g5, ep, hMg, hg⟩ : ∃ g, γ 9 = .pointer (some ⟨g, 0, none⟩) ∧ M3 ≤ g ∧ Row w9 g 33 .u8 (fill 16 []) := h.2.2.2.2.2.2.2.2.2
          simp only [putE, Act.put, List.setIfInBounds_toArray, List.set_cons_zero, List.set_cons_succ]
          rw [ez, ep, e8]
          have HGA : Kp (Row w9 g5 33 .u8 (fill 16 [])) := ⟨hg⟩
          obtain ⟨W4, hW9⟩ : ∃ W, W = w9.setRow g5 (kv .u8 z4).toArray := ⟨_, rfl⟩
          have P4 : Kp (Blk W4 A (.cells #[.int .i64 x0_0, .int .u32 x0_1, .int .u32 x0_2] 48)) := ⟨by rw [hW9]; exact (setRow_other _ g5 A _ (by omega)).trans hS.1⟩
          have R4_e : Kp (Row W4 (A + 1) 32 .u8 x4) := ⟨by rw [hW9]; exact Row.otherRow hS.2.1 (by omega) _⟩
          have R4_g1 : Kp (Row W4 (g1) 33 .u8 z) := ⟨by rw [hW9]; exact Row.otherRow hS.2.2.1 (by omega) _⟩
          have R4_g4 : Kp (Row W4 (g4) 33 .u8 z4) := ⟨by rw [hW9]; exact Row.otherRow hS.2.2.2.1 (by omega) _⟩
          have R4_g5 : Kp (Row W4 (g5) 33 .u8 z4) := ⟨by rw [hW9]; exact HGA.out.setRow z4⟩
          have Y4 : Kp (HoldsS W4 (.slice a n c) n Wl) := ⟨by rw [hW9]; exact hS.2.2.2.2.1.off (wayb_off HWB.out (by omega)) _⟩
          have B4 : Kp (Below A w W4) := ⟨by rw [hW9]; exact Below.row hS.2.2.2.2.2.2 (by omega) _⟩
          have HMg3 := Kp.mk hMg
          have HWk := Kp.mk hW9
          clear h hS ez ep hg hW9 P3 B3 HM3 HMe3 hMg hbA3 R3_e hb3_e R3_g1 hb3_g1 R3_g4 hb3_g4 e8 Y3
          refine wpOps_step rfl rfl ?_
          refine wp_store_rowD rfl 33 (.tmp 16) (.tmp 60) rfl g5 (kv .u8 z4).toArray rfl rfl 33 _ HGA.out (cells50 HL_z4.out.1) (size50 HL_z4.out.1) (kv_all _ _) ?_
          rw [← HWk.out]
          clear HWk HGA
          refine wpOps_step rfl rfl ?_
          refine wp_assign_endD (d := some 17) (v := .int .i64 0) rfl rfl rfl ?_
          simp only [Act.put, List.setIfInBounds_toArray, List.set_cons_zero, List.set_cons_succ]
          refine wpOps_done ?_
          go_wp2_with fail
          refine (awake6 W4 (HK.out.keep (by rw [← HA.out]; exact B4.out))).mono ?_
          rintro r w5 ⟨rfl, hb⟩
          have E4 := Kp.mk (R4_g4.out.keep hb)
          have E5 := Kp.mk (R4_g5.out.keep hb)
          have B9 : Kp (Below A w w5) := ⟨B4.out.trans (hb.mono (Nat.le_of_lt P4.out.lt))⟩
          have hq : ∀ w, (binOp .eql 33 (dgV z4) (dgV z4)).run Tryd.prog w = .ok (.bool true) w := fun w => eql50 (p := z4) HL_z4.out.2 HL_z4.out.1 w
          have hg := eqg50
          clear hb
          go_wp2_with first
            | (refine wpList_load_rowG rfl 33 (.tmp 14) rfl g4 rfl 33 _ (0, 0) _ E4.out Tryd.underlying33 rfl (cells50 HL_z4.out.1) ?_)
            | (refine wpList_load_rowG rfl 33 (.tmp 16) rfl g5 rfl 33 _ (0, 0) _ E5.out Tryd.underlying33 rfl (cells50 HL_z4.out.1) ?_)
          clear hq hg
          go_ret
          exact ⟨rfl, by rw [← HA.out]; exact B9.out⟩
end Go.Proofs.YtahmioiefmheeaaDoor
