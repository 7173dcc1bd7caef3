/-
  The document's SameHello, of Hellos that are the same; the law FrameHellos, walked.
-/
import Derived.Test.YtgabjmmmiogfjaaDoorFhF
import Derived.SizedLaws
namespace Go.Proofs.YtgabjmmmiogfjaaDoor
open Go.ChangeShapes Go.WideShapes Go.ChangeAt Go.RowKit Go.Deep

set_option maxRecDepth 100000 in
set_option maxHeartbeats 8000000 in
theorem same_hello (M K : Nat) (x : Int) (a b : Option Addr) (n c m d : Nat) (l : List Int) (w : World) (hx : HoldsU w M (.slice a n c) l) (hy : HoldsU w K (.slice b m d) l) :
    Calls Tryd.prog 32 #[.agg #[.int .u8 x, .slice a n c], .agg #[.int .u8 x, .slice b m d]] w fun r w' => r = .returned (.bool true) ∧ Below w.heap.size w w' := by
  have hn : n = l.length := by
    obtain ⟨a1, n1, c1, e1, e2⟩ := hx.slice
    simp only [Value.slice.injEq] at e1
    omega
  obtain rfl : m = n := by
    obtain ⟨a1, n1, c1, e1, e2⟩ := hy.slice
    simp only [Value.slice.injEq] at e1
    omega
  obtain ⟨A, hA⟩ : ∃ A, A = w.heap.size := ⟨_, rfl⟩
  have HAe := Kp.mk hA
  have HN := Kp.mk hn
  have HM := Kp.mk hx.len
  have hm9 : m ≤ 9223372036854775807 := by have := HM.out; unfold maxLen at this; omega
  have HX := Kp.mk ((hx.alloc (.cells #[.int .u8 x, .slice a m c] 69)).alloc (.cells #[.int .u8 x, .slice b m d] 69))
  have HY := Kp.mk ((hy.alloc (.cells #[.int .u8 x, .slice a m c] 69)).alloc (.cells #[.int .u8 x, .slice b m d] 69))
  have HB : Kp (Below w.heap.size w ((w.alloc (.cells #[.int .u8 x, .slice a m c] 69)).alloc (.cells #[.int .u8 x, .slice b m d] 69))) := ⟨more (more (Below.refl _ _) _) _⟩
  have HP : Kp (Blk ((w.alloc (.cells #[.int .u8 x, .slice a m c] 69)).alloc (.cells #[.int .u8 x, .slice b m d] 69)) A (.cells #[.int .u8 x, .slice a m c] 69)) := ⟨(Blk.newAt _ hA).old _⟩
  have HQ : Kp (Blk ((w.alloc (.cells #[.int .u8 x, .slice a m c] 69)).alloc (.cells #[.int .u8 x, .slice b m d] 69)) (A + 1) (.cells #[.int .u8 x, .slice b m d] 69)) := ⟨Blk.newAt _ (by simp [hA])⟩
  have e1 : (x == x) = true := by simp
  have e2 : (x != x) = false := by simp
  have e3 : ((m : Int) == m) = true := by simp
  have e4 : ((m : Int) != m) = false := by simp
  clear hx hy hn
  go_enter Tryd.func32, Tryd.ntmps32
  go_wp2_with fail
  rw [← hA] at HB ⊢
  clear hA
  generalize (w.alloc (.cells #[.int .u8 x, .slice a m c] 69)).alloc (.cells #[.int .u8 x, .slice b m d] 69) = W at *
  clear e1 e2 e3 e4
  have hs : Kp (Blk W A (.cells #[.int .u8 x, .slice a m c] 69) ∧ Blk W (A + 1) (.cells #[.int .u8 x, .slice b m d] 69) ∧ HoldsU W M (.slice a m c) l ∧ HoldsU W K (.slice b m d) l ∧ Below A w W) := ⟨⟨HP.out, HQ.out, HX.out, HY.out, HB.out⟩⟩
  clear HP HQ HX HY HB
  go_loopw [5] (fun ct wr => ∃ i : Nat, i ≤ m ∧ ct = .int .i64 i ∧ Kp (Blk wr A (.cells #[.int .u8 x, .slice a m c] 69) ∧ Blk wr (A + 1) (.cells #[.int .u8 x, .slice b m d] 69) ∧ HoldsU wr M (.slice a m c) l ∧ HoldsU wr K (.slice b m d) l ∧ Below A w wr)) (fun ct _ => m - (intOf ct).toNat)
  case atStart => exact ⟨0, by omega, rfl, hs⟩
  case round =>
    obtain ⟨i, hi, rfl, HS⟩ := hrel
    obtain ⟨p0, p1, -, -⟩ := HS.out.1.two
    obtain ⟨q0, q1, -, -⟩ := HS.out.2.1.two
    by_cases hlt : i < m
    · have HD : Kp (Blk wr.drew A (.cells #[.int .u8 x, .slice a m c] 69) ∧ Blk wr.drew (A + 1) (.cells #[.int .u8 x, .slice b m d] 69) ∧ HoldsU wr.drew M (.slice a m c) l ∧ HoldsU wr.drew K (.slice b m d) l ∧ Below A w wr.drew) := ⟨⟨HS.out.1.keep (Below.refl _ _).drew, HS.out.2.1.keep (Below.refl _ _).drew, HS.out.2.2.1.drew, HS.out.2.2.2.1.drew, HS.out.2.2.2.2.drew⟩⟩
      obtain ⟨b1, o1, rfl, -, k1⟩ := HS.out.2.2.1.cellAt (i := i) (by have := HN.out; omega)
      obtain ⟨b2, o2, rfl, -, k2⟩ := HS.out.2.2.2.1.cellAt (i := i) (by have := HN.out; omega)
      generalize l.getD i 0 = z at *
      have e1 : (z == z) = true := by simp
      have e2 : (z != z) = false := by simp
      go_wp2_with fail
      go_region
      all_goals go_wp2_with fail
      all_goals exact ⟨⟨i + 1, by omega, by go_num, HD⟩, by simp [intOf]; omega⟩
    · obtain rfl : i = m := by omega
      go_wp2_with fail
      go_ret
      exact ⟨rfl, by rw [← HAe.out]; exact HS.out.2.2.2.2⟩
/-- On the way: the two rows of bytes, as a row. -/
structure HLt (w : World) (A K : Nat) (va : Option Addr) (vn vc : Nat) (B : List Int) (pa : Option Addr) (pn pc : Nat) (PB : List Int) (W : World) : Prop where
  n : KonIs W
  b : HoldsB W K (.slice va vn vc) B
  p : HoldsB W K (.slice pa pn pc) PB
  r : Blk W K (.cells #[.slice va vn vc, .slice pa pn pc] 24)
  below : Below A w W
  ak : A ≤ K
theorem HLt.more {w W W' : World} {A K : Nat} {va pa : Option Addr} {vn vc pn pc : Nat} {B PB : List Int} (h : HLt w A K va vn vc B pa pn pc PB W) (hb : Below W.heap.size W W') : HLt w A K va vn vc B pa pn pc PB W' :=
  ⟨h.n.keep hb, h.b.keep hb, h.p.keep hb, h.r.keep hb, h.below.trans (hb.mono (by have := h.r.lt; have := h.ak; omega)), h.ak⟩
theorem HLt.turn {w W W' : World} {A K b : Nat} {va pa : Option Addr} {vn vc pn pc : Nat} {B PB : List Int} {o : Obj} (h : HLt w A K va vn vc B pa pn pc PB W) (hT : Turn b o W W') (hb : K < b) (h1 : 0 < b) : HLt w A K va vn vc B pa pn pc PB W' :=
  ⟨h.n.turn hT (by omega), h.b.turn hT (by omega), h.p.turn hT (by omega), hT.keep h.r (by omega), h.below.trans (hT.below (by have := h.ak; omega) (by have := h.r.lt; have := h.ak; omega)), h.ak⟩
/-- A Hello in its cell, and its numbers. -/
structure UIn (W : World) (K : Nat) (t : TypeId) (x : Int) (a : Option Addr) (n c : Nat) (l : List Int) : Prop where
  b : Blk W K (.cells #[.int .u8 x, .slice a n c] t)
  m : HoldsU W K (.slice a n c) l
theorem UIn.more {W W' : World} {K : Nat} {t : TypeId} {x : Int} {a : Option Addr} {n c : Nat} {l : List Int} (h : UIn W K t x a n c l) (hb : Below W.heap.size W W') : UIn W' K t x a n c l := ⟨h.b.keep hb, h.m.keep hb⟩
theorem UIn.turn {W W' : World} {K b : Nat} {t : TypeId} {x : Int} {a : Option Addr} {n c : Nat} {l : List Int} {o : Obj} (h : UIn W K t x a n c l) (hT : Turn b o W W') (hb : K < b) : UIn W' K t x a n c l := ⟨hT.keep h.b (by omega), h.m.turn hT (by omega)⟩
theorem UIn.set {W : World} {K : Nat} {t : TypeId} {x : Int} {a : Option Addr} {n c : Nat} {l : List Int} {old : Array Value} (hb : Blk W K (.cells old t)) (h : HoldsU W K (.slice a n c) l) : UIn (W.setRow K #[.int .u8 x, .slice a n c]) K t x a n c l := ⟨(Turn.ofRow hb _).blk, h.turn (Turn.ofRow hb _) (Nat.le_refl _)⟩
theorem helloB_len (hd : Int) (l : List Int) : (helloB hd l).length ≤ 34 := by
  unfold helloB
  rw [List.length_append, List.length_append, digs_len, digs_len, numsB_len, List.length_take]
  omega
theorem add_nat (b off n : Nat) : (Addr.add { block := b, off := off, spot := none } n) = ⟨b, off + n, none⟩ := by
  unfold Addr.add
  split
  · rename_i h; subst h; rfl
  · rfl
set_option maxRecDepth 100000 in
set_option maxHeartbeats 16000000 in
theorem hellos_walk (hd : Int) (a : Option Addr) (n c : Nat) (l B : List Int) (v : Value) (w : World) (hk : KonIs w) (hhd : 0 ≤ hd ∧ hd ≤ 255) (hu : HoldsU w w.heap.size (.slice a n c) l) (h : HoldsB w w.heap.size v B) (hr : B.length ≤ 140737488351232) :
    Calls Tryd.prog 7 #[.agg #[.int .u8 hd, .slice a n c], v] w fun r w' => r = .returned (.bool true) ∧ Below w.heap.size w w' := by
  obtain ⟨A, hA⟩ : ∃ A, A = w.heap.size := ⟨_, rfl⟩
  have HA := Kp.mk hA
  have HHD := Kp.mk hhd
  have HBL := Kp.mk hr
  have hn : n = l.length := by
    obtain ⟨a1, n1, c1, e1, e2⟩ := hu.slice
    simp only [Value.slice.injEq] at e1
    omega
  have hmax : n ≤ 9223372036854775807 := by have := hu.len; unfold maxLen at this; omega
  obtain ⟨va, vn, vc, rfl, -⟩ := h.slice
  have K1 : Kp (Blk (w.alloc (.cells #[.int .u8 hd, .slice a n c] 69)) A (.cells #[.int .u8 hd, .slice a n c] 69)) := ⟨Blk.newAt _ hA⟩
  have K2 : Kp (HoldsU (w.alloc (.cells #[.int .u8 hd, .slice a n c] 69)) A (.slice a n c) l) := ⟨by rw [hA]; exact hu.alloc _⟩
  have K3 : Kp (HoldsB (w.alloc (.cells #[.int .u8 hd, .slice a n c] 69)) A (.slice va vn vc) B) := ⟨by rw [hA]; exact h.alloc _⟩
  have K4 : Kp (KonIs (w.alloc (.cells #[.int .u8 hd, .slice a n c] 69))) := ⟨hk.keep (more (Below.refl _ _) _)⟩
  have K5 : Kp (Below A w (w.alloc (.cells #[.int .u8 hd, .slice a n c] 69))) := ⟨by rw [hA]; exact more (Below.refl _ _) _⟩
  clear hk hhd hu h hr hn
  by_cases h40 : 40 < n
  · have h40' : (40 : Int) < n := by omega
    go_enter Tryd.func7, Tryd.ntmps7
    go_wp2_with fail
    refine (awake_any _ K4.out).mono ?_
    rintro r w6 ⟨rfl, hb⟩
    have B6 : Kp (Below A w w6) := ⟨K5.out.trans (hb.mono (Nat.le_of_lt K1.out.lt))⟩
    clear hb
    go_wp2_with fail
    go_ret
    exact ⟨rfl, by rw [← HA.out]; exact B6.out⟩
  · have h40' : ¬ (40 : Int) < n := by omega
    go_enter Tryd.func7, Tryd.ntmps7
    go_wp2_with fail
    refine (phello_any hd (.slice a n c) l _ (K2.out.mono (Nat.le_of_lt K1.out.lt)) HHD.out).mono ?_
    rintro r w1 ⟨u, rfl, ho, hby, hb⟩
    obtain ⟨PB, hPB⟩ : ∃ PB, PB = helloB hd l := ⟨_, rfl⟩
    have HPB := Kp.mk hPB
    have hp := HoldsB.ofRow hby ho
    rw [← hPB] at hp
    obtain ⟨pa, pn, pc, rfl, -⟩ := hp.slice
    have HPL : Kp (PB.length ≤ 140737488351232) := ⟨by rw [hPB]; have := helloB_len hd l; omega⟩
    have HP1 := Kp.mk hp
    have HN1 := Kp.mk (K4.out.keep hb)
    have HV1 := Kp.mk (K3.out.keep hb)
    have HU1 := Kp.mk (K2.out.keep hb)
    have HK1 := Kp.mk (K1.out.keep hb)
    have HB1 : Kp (Below A w w1) := ⟨K5.out.trans (hb.mono (Nat.le_of_lt K1.out.lt))⟩
    obtain ⟨sx, hsx⟩ : ∃ sx, sx = strOfNums PB := ⟨_, rfl⟩
    have HSX := Kp.mk hsx
    rw [← hA]
    clear ho hby hb hp hPB hsx K1 K2 K3 K4 K5 hA h40 h40'
    go_wp2_with fail
    refine wp_region_pred (fun w' => KonIs w' ∧ HoldsB w' A (.slice va vn vc) B ∧ HoldsB w' w'.heap.size (.slice pa pn pc) PB ∧ HoldsU w' A (.slice a n c) l ∧ Blk w' A (.cells #[.int .u8 hd, .slice a n c] 69) ∧ Below A w w') [0, 1, 2, 3, 4, 5] []
      (fun ι w' v => match ι with
        | 0 => v = .slice pa pn pc
        | 1 | 4 => v = .string sx
        | 2 => v = .agg #[.int .u8 hd, .slice a n c]
        | 5 => v = .bool false
        | 3 => ∃ a n c, v = .slice a n c ∧ HoldsB w' w'.heap.size (.slice a n c) PB
        | _ => v = .bool true)
      [[], [(0, some 23)], [], [(2, some 25)], [(3, some 26)], [(1, some 24), (4, some 27)]]
      [(0, some 23), (1, some 24), (2, some 25), (3, some 26), (4, some 27), (5, some 28)]
      (by kernel_rfl) (by kernel_rfl) (by kernel_rfl) (by kernel_rfl) (by kernel_rfl) (by kernel_rfl) (by decide) (by decide) (fun w1 w2 h hb => ⟨h.1.keep hb, h.2.1.keep hb, h.2.2.1.grow hb, h.2.2.2.1.keep hb, h.2.2.2.2.1.keep hb, h.2.2.2.2.2.trans (hb.mono (Nat.le_of_lt h.2.2.2.2.1.lt))⟩) ?_ ⟨HN1.out.keep (Below.refl _ _).drew, HV1.out.keep (Below.refl _ _).drew, HP1.out.keep (Below.refl _ _).drew, HU1.out.keep (Below.refl _ _).drew, HK1.out.keep (Below.refl _ _).drew, HB1.out.drew⟩ ?_ ?_
    · intro ι w1 w2 v h hb
      by_cases h3 : ι = 3
      · subst h3
        exact (by obtain ⟨a, n, c, e, hg⟩ := h; exact ⟨a, n, c, e, hg.grow hb⟩)
      match ι, h3, h with
      | 0, _, h => exact h
      | 1, _, h => exact h
      | 2, _, h => exact h
      | 3, g, h => exact absurd rfl g
      | 4, _, h => exact h
      | 5, _, h => exact h
      | _ + 6, _, h => exact h
    · refine ⟨fun γ wx hS h => ?_, fun γ wx hS h => ?_, fun γ wx hS h => ?_, fun γ wx hS h => ?_, fun γ wx hS h => ?_, fun γ wx hS h => ?_, trivial⟩
      · refine ⟨_, rfl, Or.inl ⟨rfl, predRun_value (v := .slice pa pn pc) (by simp only [putE]; first | rfl | (go_simp; done) | (go_simp; with_reducible rfl) | (go_simp; rfl)) rfl⟩⟩
      · have h0 := h
        have e0 : γ 0 = .slice pa pn pc := h0
        refine ⟨_, rfl, ?_⟩
        refine predOp_val (v := .string sx) ?_ ?_ ?_
        · kernel_rfl
        · have q1 : (convert 24 9 (.slice pa pn pc)).run Tryd.prog wx = .ok (.string sx) wx := by rw [HSX.out]; exact hS.2.2.1.text
          simp only [putE, e0]
          go_simp
        · rfl
      · refine ⟨_, rfl, ?_⟩
        refine predOp_val (v := .agg #[.int .u8 hd, .slice a n c]) ?_ ?_ ?_
        · kernel_rfl
        · exact exec_load_row (x := .tmp 2) (g := A) (t := 69) (cs := #[.int .u8 hd, .slice a n c]) (fr := (0, 0)) rfl (by simp only [putE, Act.put, List.setIfInBounds_toArray, List.set_cons_zero, List.set_cons_succ]; rfl) hS.2.2.2.2.1 Tryd.underlying69 rfl info69s
        · rfl
      · have h2 := h
        have e2 : γ 2 = .agg #[.int .u8 hd, .slice a n c] := h2
        refine ⟨_, rfl, Or.inl ⟨rfl, predRun_call (f := 29) (args := #[.agg #[.int .u8 hd, .slice a n c]]) (by simp only [putE, e2]; go_simp) ?_⟩⟩
        exact (rhello_any hd (.slice a n c) l wx (hS.2.2.2.1.mono (Nat.le_of_lt hS.2.2.2.2.1.lt)) HHD.out).mono fun r w9 ⟨u, h1, h2, h3⟩ => by
          obtain ⟨a9, n9, c9, rfl, -⟩ := h2.slice
          exact ⟨_, h1, ⟨a9, n9, c9, rfl, by rw [HPB.out]; exact h2⟩, h3⟩
      · have h3 := h
        have p3 : ∃ a n c, (γ 3) = .slice a n c ∧ HoldsB wx wx.heap.size (.slice a n c) PB := h3
        obtain ⟨a9, n9, c9, e3, h9⟩ := p3
        refine ⟨_, rfl, ?_⟩
        refine predOp_val (v := .string sx) ?_ ?_ ?_
        · kernel_rfl
        · have q1 : (convert 24 9 (.slice a9 n9 c9)).run Tryd.prog wx = .ok (.string sx) wx := by rw [HSX.out]; exact h9.text
          simp only [putE, e3]
          go_simp
        · rfl
      · obtain ⟨h1, h4⟩ := h
        have e1 : γ 1 = .string sx := h1
        have e4 : γ 4 = .string sx := h4
        refine ⟨_, rfl, ?_⟩
        refine predOp_val (v := .bool false) ?_ ?_ ?_
        · kernel_rfl
        · simp only [putE, e1, e4]
          go_simp
        · rfl
    · intro γ w9 hS h
      have e5 : γ 5 = .bool false := h.2.2.2.2.2
      simp only [putE, Act.put, List.setIfInBounds_toArray, List.set_cons_zero, List.set_cons_succ]
      rw [e5]
      have S9 := Kp.mk hS
      clear h hS e5
      generalize γ 0 = y0
      generalize γ 1 = y1
      generalize γ 2 = y2
      generalize γ 3 = y3
      generalize γ 4 = y4
      refine wpOps_done ?_
      obtain ⟨K, hK⟩ : ∃ K, K = w9.heap.size := ⟨_, rfl⟩
      have HKe := Kp.mk hK
      have S0' : Kp (HLt w A K va vn vc B pa pn pc PB (w9.alloc (.cells #[.slice va vn vc, .slice pa pn pc] 24))) := ⟨⟨S9.out.1.keep (more (Below.refl _ _) _), ((S9.out.2.1.alloc _).mono (by rw [hK]; exact Nat.le_of_lt S9.out.2.2.2.2.1.lt)), by rw [hK]; exact S9.out.2.2.1.alloc _, Blk.newAt _ hK, S9.out.2.2.2.2.2.alloc (Nat.le_of_lt S9.out.2.2.2.2.1.lt) _, by rw [hK]; exact Nat.le_of_lt S9.out.2.2.2.2.1.lt⟩⟩
      clear S9
      go_wp2_with fail
      rw [← hK]
      clear hK
      generalize w9.alloc (.cells #[.slice va vn vc, .slice pa pn pc] 24) = W9 at *
      go_loopw [33] (fun ct wr => ∃ i : Nat, i ≤ 2 ∧ ct = .int .i64 i ∧ HLt w A K va vn vc B pa pn pc PB wr) (fun ct _ => 2 - (intOf ct).toNat)
      case atStart => exact ⟨0, by omega, rfl, S0'.out⟩
      case round =>
        obtain ⟨i, hi', rfl, hst⟩ := hrel
        have S0 := Kp.mk hst
        clear hst
        have k0 : wr.cell? ⟨K, 0, none⟩ = some (.slice va vn vc) := S0.out.r.cell 0
        have k1 : wr.cell? ⟨K, 1, none⟩ = some (.slice pa pn pc) := S0.out.r.cell 1
        by_cases h0 : i = 0
        · subst h0
          go_wp2_with fail
          clear k0 k1
          refine (ghello_any K _ B _ S0.out.b HBL.out).mono ?_
          rintro r w1 ⟨a1, n1, c1, rfl, hh, hb⟩
          have U1 := Kp.mk (S0.out.more hb)
          have HH1 := Kp.mk hh
          clear hh hb
          obtain ⟨x1, hx1⟩ : ∃ x, x = gX B := ⟨_, rfl⟩
          obtain ⟨l1, hl1⟩ : ∃ l, l = gW B := ⟨_, rfl⟩
          obtain ⟨E1, hE1⟩ : ∃ E, E = gEnd B := ⟨_, rfl⟩
          have RH : Kp (∀ w3, HoldsB w3 K (.slice va vn vc) B → K ≤ w3.heap.size → Calls Tryd.prog 31 #[.slice va vn vc] w3 (fun r w' => ∃ a n c, r = .returned (.tuple #[.agg #[.int .u8 x1, .slice a n c], .int .i64 E1]) ∧ HoldsU w' w'.heap.size (.slice a n c) l1 ∧ Below w3.heap.size w3 w')) := ⟨fun w3 h3 hk3 => by rw [hx1, hl1, hE1]; exact rghello_any K _ B w3 h3 hk3⟩
          rw [← hx1, ← hE1]
          rw [← hl1] at HH1
          obtain ⟨N1, hN1⟩ : ∃ N1, N1 = w1.heap.size := ⟨_, rfl⟩
          have HN1 := Kp.mk hN1
          have L1 : Kp (K < N1) := ⟨by rw [hN1]; exact U1.out.r.lt⟩
          clear hN1 hx1 hl1 hE1
          go_wp2_with (refine wpList_store_row rfl 71 (.tmp 8) (.tmp 40) rfl w1.heap.size #[.int .u8 x1, .slice a1 n1 c1] rfl rfl 71 _ (Blk.newAt _ rfl) info71s rfl (h_one _ _ _ _) ?_; rw [← HN1.out]; refine wpl_world (w := (w1.alloc (HZ 71)).setRow N1 #[.int .u8 x1, .slice a1 n1 c1]) (fun W => HLt w A K va vn vc B pa pn pc PB W ∧ UIn W N1 71 x1 a1 n1 c1 l1) ⟨(U1.out.more (more (Below.refl _ _) _)).turn (Turn.ofRow (Blk.newAt _ HN1.out) _) L1.out (by have := L1.out; omega), UIn.set (Blk.newAt _ HN1.out) (by rw [HN1.out]; exact HH1.out.alloc _)⟩ ?_; rintro W1 h1; have S1 := Kp.mk h1; clear h1)
          refine (RH.out _ S1.out.1.b (Nat.le_of_lt S1.out.1.r.lt)).mono ?_
          rintro r w2 ⟨a2, n2, c2, rfl, hh, hb⟩
          have U2 := Kp.mk (And.intro (S1.out.1.more hb) (S1.out.2.more hb))
          have HH2 := Kp.mk hh
          clear hh hb S1 U1 HH1
          obtain ⟨N2, hN2⟩ : ∃ N2, N2 = w2.heap.size := ⟨_, rfl⟩
          have HN2 := Kp.mk hN2
          have L2 : Kp (K < N2 ∧ N1 < N2) := ⟨by rw [hN2]; exact ⟨U2.out.1.r.lt, U2.out.2.b.lt⟩⟩
          clear hN2
          go_wp2_with (refine wpList_store_row rfl 69 (.tmp 10) (.tmp 45) rfl w2.heap.size #[.int .u8 x1, .slice a2 n2 c2] rfl rfl 69 _ (Blk.newAt _ rfl) info69s rfl (h_one _ _ _ _) ?_; rw [← HN2.out]; refine wpl_world (w := (w2.alloc (HZ 69)).setRow N2 #[.int .u8 x1, .slice a2 n2 c2]) (fun W => HLt w A K va vn vc B pa pn pc PB W ∧ UIn W N1 71 x1 a1 n1 c1 l1 ∧ UIn W N2 69 x1 a2 n2 c2 l1) ⟨(U2.out.1.more (more (Below.refl _ _) _)).turn (Turn.ofRow (Blk.newAt _ HN2.out) _) L2.out.1 (by have := L2.out; omega), (U2.out.2.more (more (Below.refl _ _) _)).turn (Turn.ofRow (Blk.newAt _ HN2.out) _) L2.out.2, UIn.set (Blk.newAt _ HN2.out) (by rw [HN2.out]; exact HH2.out.alloc _)⟩ ?_; rintro W2 h2; have S2 := Kp.mk h2; clear h2; have c0 : W2.cell? ⟨N1, 0, none⟩ = some (.int .u8 x1) := S2.out.2.1.b.cell 0; have c1' : W2.cell? ⟨N1, 1, none⟩ = some (.slice a1 n1 c1) := S2.out.2.1.b.cell 1; have d0 : W2.cell? ⟨N2, 0, none⟩ = some (.int .u8 x1) := S2.out.2.2.b.cell 0; have d1 : W2.cell? ⟨N2, 1, none⟩ = some (.slice a2 n2 c2) := S2.out.2.2.b.cell 1; have e1 : (E1 == E1) = true := (by simp); have e2 : (E1 != E1) = false := (by simp))
          refine (same_hello N1 N2 x1 a1 a2 n1 c1 n2 c2 l1 _ S2.out.2.1.m S2.out.2.2.m).mono ?_
          rintro r w3 ⟨rfl, hb⟩
          have S3 := Kp.mk (S2.out.1.more hb)
          clear hb S2 U2 HH2 c0 c1' d0 d1 e1 e2
          go_wp2_with fail
          exact ⟨⟨1, by omega, by first | rfl | go_num, S3.out⟩, by simp [intOf]⟩
        · by_cases h1 : i = 1
          · subst h1
            clear h0
            go_wp2_with fail
            clear k0 k1
            refine (ghello_any K _ PB _ S0.out.p HPL.out).mono ?_
            rintro r w1 ⟨a1, n1, c1, rfl, hh, hb⟩
            have U1 := Kp.mk (S0.out.more hb)
            have HH1 := Kp.mk hh
            clear hh hb
            obtain ⟨x1, hx1⟩ : ∃ x, x = gX PB := ⟨_, rfl⟩
            obtain ⟨l1, hl1⟩ : ∃ l, l = gW PB := ⟨_, rfl⟩
            obtain ⟨E1, hE1⟩ : ∃ E, E = gEnd PB := ⟨_, rfl⟩
            have RH : Kp (∀ w3, HoldsB w3 K (.slice pa pn pc) PB → K ≤ w3.heap.size → Calls Tryd.prog 31 #[.slice pa pn pc] w3 (fun r w' => ∃ a n c, r = .returned (.tuple #[.agg #[.int .u8 x1, .slice a n c], .int .i64 E1]) ∧ HoldsU w' w'.heap.size (.slice a n c) l1 ∧ Below w3.heap.size w3 w')) := ⟨fun w3 h3 hk3 => by rw [hx1, hl1, hE1]; exact rghello_any K _ PB w3 h3 hk3⟩
            rw [← hx1, ← hE1]
            rw [← hl1] at HH1
            obtain ⟨N1, hN1⟩ : ∃ N1, N1 = w1.heap.size := ⟨_, rfl⟩
            have HN1 := Kp.mk hN1
            have L1 : Kp (K < N1) := ⟨by rw [hN1]; exact U1.out.r.lt⟩
            clear hN1 hx1 hl1 hE1
            go_wp2_with (refine wpList_store_row rfl 71 (.tmp 8) (.tmp 40) rfl w1.heap.size #[.int .u8 x1, .slice a1 n1 c1] rfl rfl 71 _ (Blk.newAt _ rfl) info71s rfl (h_one _ _ _ _) ?_; rw [← HN1.out]; refine wpl_world (w := (w1.alloc (HZ 71)).setRow N1 #[.int .u8 x1, .slice a1 n1 c1]) (fun W => HLt w A K va vn vc B pa pn pc PB W ∧ UIn W N1 71 x1 a1 n1 c1 l1) ⟨(U1.out.more (more (Below.refl _ _) _)).turn (Turn.ofRow (Blk.newAt _ HN1.out) _) L1.out (by have := L1.out; omega), UIn.set (Blk.newAt _ HN1.out) (by rw [HN1.out]; exact HH1.out.alloc _)⟩ ?_; rintro W1 h1; have S1 := Kp.mk h1; clear h1)
            refine (RH.out _ S1.out.1.p (Nat.le_of_lt S1.out.1.r.lt)).mono ?_
            rintro r w2 ⟨a2, n2, c2, rfl, hh, hb⟩
            have U2 := Kp.mk (And.intro (S1.out.1.more hb) (S1.out.2.more hb))
            have HH2 := Kp.mk hh
            clear hh hb S1 U1 HH1
            obtain ⟨N2, hN2⟩ : ∃ N2, N2 = w2.heap.size := ⟨_, rfl⟩
            have HN2 := Kp.mk hN2
            have L2 : Kp (K < N2 ∧ N1 < N2) := ⟨by rw [hN2]; exact ⟨U2.out.1.r.lt, U2.out.2.b.lt⟩⟩
            clear hN2
            go_wp2_with (refine wpList_store_row rfl 69 (.tmp 10) (.tmp 45) rfl w2.heap.size #[.int .u8 x1, .slice a2 n2 c2] rfl rfl 69 _ (Blk.newAt _ rfl) info69s rfl (h_one _ _ _ _) ?_; rw [← HN2.out]; refine wpl_world (w := (w2.alloc (HZ 69)).setRow N2 #[.int .u8 x1, .slice a2 n2 c2]) (fun W => HLt w A K va vn vc B pa pn pc PB W ∧ UIn W N1 71 x1 a1 n1 c1 l1 ∧ UIn W N2 69 x1 a2 n2 c2 l1) ⟨(U2.out.1.more (more (Below.refl _ _) _)).turn (Turn.ofRow (Blk.newAt _ HN2.out) _) L2.out.1 (by have := L2.out; omega), (U2.out.2.more (more (Below.refl _ _) _)).turn (Turn.ofRow (Blk.newAt _ HN2.out) _) L2.out.2, UIn.set (Blk.newAt _ HN2.out) (by rw [HN2.out]; exact HH2.out.alloc _)⟩ ?_; rintro W2 h2; have S2 := Kp.mk h2; clear h2; have c0 : W2.cell? ⟨N1, 0, none⟩ = some (.int .u8 x1) := S2.out.2.1.b.cell 0; have c1' : W2.cell? ⟨N1, 1, none⟩ = some (.slice a1 n1 c1) := S2.out.2.1.b.cell 1; have d0 : W2.cell? ⟨N2, 0, none⟩ = some (.int .u8 x1) := S2.out.2.2.b.cell 0; have d1 : W2.cell? ⟨N2, 1, none⟩ = some (.slice a2 n2 c2) := S2.out.2.2.b.cell 1; have e1 : (E1 == E1) = true := (by simp); have e2 : (E1 != E1) = false := (by simp))
            refine (same_hello N1 N2 x1 a1 a2 n1 c1 n2 c2 l1 _ S2.out.2.1.m S2.out.2.2.m).mono ?_
            rintro r w3 ⟨rfl, hb⟩
            have S3 := Kp.mk (S2.out.1.more hb)
            clear hb S2 U2 HH2 c0 c1' d0 d1 e1 e2
            go_wp2_with fail
            exact ⟨⟨2, by omega, by first | rfl | go_num, S3.out⟩, by simp [intOf]⟩
          · obtain rfl : i = 2 := by omega
            clear h0 h1 k0 k1
            go_wp2_with fail
            refine (awake_any _ S0.out.n).mono ?_
            rintro r w6 ⟨rfl, hb⟩
            have S6 := Kp.mk (S0.out.more hb)
            clear hb
            go_wp2_with fail
            go_ret
            exact ⟨rfl, by rw [← HA.out]; exact S6.out.below⟩
end Go.Proofs.YtgabjmmmiogfjaaDoor
