/-
  The document's PutHello.
-/
import Derived.Test.YtgabjmmmiogfjaaDoorFhB
namespace Go.Proofs.YtgabjmmmiogfjaaDoor
open Go.RowKit

/-- The document's PutHello, on its way. -/
structure RHSt (w : World) (F G : Nat) (s : Value) (us : List Int) (v : Value) (L : List Int) (W : World) : Prop where
  o : HoldsB W W.heap.size v L
  g : Blk W G (.cells #[v, .bool false] 122)
  u : HoldsU W F s us
  below : Below F w W
  fg : F ≤ G
theorem rok (l : List Int) (n : Int) (k : Nat) (h : n < 256 ^ k) : (if 256 ^ k ≤ n then l else l ++ digs n k) = l ++ digs n k ∧ numF false n k = false := ⟨if_neg (by omega), by unfold numF; simp; omega⟩
theorem build122z (w : World) : (Instr.build 122 #[]).run Tryd.prog w = .ok (.agg #[.slice none 0 0, .bool false]) w := run_build w 122 #[] _ (by kernel_rfl)
/-- A turn of a box of a slice and a bool leaves bytes as they are. -/
theorem HoldsB.boxedT {w w' : World} {M g : Nat} {u : Value} {l : List Int} {s : Value} {b : Bool} {t : TypeId} {o : Obj} (h : HoldsB w M u l) (hb : Blk w g (.cells #[s, .bool b] t)) (hs : ∀ n, s ≠ .int .u8 n) (hT : Turn g o w w') : HoldsB w' M u l := by
  obtain ⟨a, cap, h1, h2, h3, h4, h5, h6, h7⟩ := h
  refine ⟨a, cap, h1, h2, h3, h4, fun x hx h0 => ⟨(h5 x hx h0).1, (h5 x hx h0).2.1, Nat.lt_of_lt_of_le (h5 x hx h0).2.2 hT.size⟩, fun x i hx hi => ?_, h7⟩
  have h8 := h6 x i hx hi
  by_cases e : x.block = g
  · exfalso
    rw [e, hb.cell (x.off + i)] at h8
    match x.off + i, h8 with
    | 0, h8 => exact hs _ (by simpa using h8)
    | 1, h8 => simp at h8
    | k + 2, h8 => simp at h8
  · exact (World.cell?_of_block (w := w) (a := ⟨x.block, x.off + i, none⟩) (hT.other _ (h5 x hx (by omega)).2.2 e)).trans h8
theorem RHSt.set {w W W' : World} {F G : Nat} {s : Value} {us L L' : List Int} {a a' : Option Addr} {n n' c c' : Nat} (h : RHSt w F G s us (.slice a n c) L W) (hb : Below W.heap.size W W') (ho : HoldsB W' W'.heap.size (.slice a' n' c') L') :
    RHSt w F G s us (.slice a' n' c') L' ((W'.setCell ⟨G, 0, none⟩ (.slice a' n' c')).setCell ⟨G, 1, none⟩ (.bool false)) := by
  have hg := h.g.keep hb
  have hT : Turn G (.cells #[.slice a' n' c', .bool false] 122) W' ((W'.setCell ⟨G, 0, none⟩ (.slice a' n' c')).setCell ⟨G, 1, none⟩ (.bool false)) := (((Turn.same hg).set 0 (.slice a' n' c')).set 1 (.bool false)).as rfl
  exact ⟨(ho.boxedT hg (fun n e => by cases e) hT).mono hT.size, hT.blk, (h.u.keep hb).turn hT h.fg, (h.below.trans (hb.mono (by have := h.g.lt; have := h.fg; omega))).trans (hT.below h.fg (by have := hg.lt; have := h.fg; omega)), h.fg⟩
set_option maxRecDepth 100000 in
set_option maxHeartbeats 8000000 in
theorem rhello_any (hd : Int) (v : Value) (l : List Int) (w : World) (h : HoldsU w w.heap.size v l) (hhd : 0 ≤ hd ∧ hd ≤ 255) :
    Calls Tryd.prog 29 #[.agg #[.int .u8 hd, v]] w fun r w' => ∃ u, r = .returned u ∧ HoldsB w' w'.heap.size u (helloB hd l) ∧ Below w.heap.size w w' := by
  obtain ⟨a, n, c, rfl, hn⟩ := h.slice
  have hmax := h.len
  unfold maxLen at hmax
  have hw1 : IntKind.u64.wrap hd = hd := u64_wrap (by omega)
  have hbz := build122z
  obtain ⟨F, hF⟩ : ∃ F, F = w.heap.size := ⟨_, rfl⟩
  have HFe := Kp.mk hF
  by_cases hc : n ≤ 8
  · obtain ⟨us, hus⟩ : ∃ us, us = l.take 8 := ⟨_, rfl⟩
    have hul : us = l := by rw [hus, List.take_of_length_le (by omega)]
    have HE : Kp (helloB hd l = digs hd 1 ++ digs us.length 1 ++ numsB us) := ⟨by rw [hus]; rfl⟩
    rw [← hul] at h hn
    have HN := Kp.mk hn
    have H8 : Kp (us.length ≤ 8) := ⟨by omega⟩
    have HU : Kp (U32s us) := ⟨h.u32s⟩
    have hw2 : IntKind.u64.wrap (n : Int) = n := u64_wrap (by omega)
    generalize helloB hd l = HB at *
    have hc' : ¬ (8 : Int) < n := by omega
    have HB0 : Kp (Below F w (w.alloc (.cells #[.int .u8 hd, .slice a n c] 69))) := ⟨by rw [hF]; exact more (Below.refl _ _) _⟩
    have HZ0 : Kp (F + 1 = (w.alloc (.cells #[.int .u8 hd, .slice a n c] 69)).heap.size) := ⟨by simp [hF]⟩
    have HU0 : Kp (HoldsU (w.alloc (.cells #[.int .u8 hd, .slice a n c] 69)) F (.slice a n c) us) := ⟨by rw [hF]; exact h.alloc _⟩
    have p0 : (w.alloc (.cells #[.int .u8 hd, .slice a n c] 69)).cell? ⟨F, 0, none⟩ = some (.int .u8 hd) := (Blk.newAt (w := w) (.cells #[.int .u8 hd, .slice a n c] 69) hF).cell 0
    have p1 : (w.alloc (.cells #[.int .u8 hd, .slice a n c] 69)).cell? ⟨F, 1, none⟩ = some (.slice a n c) := (Blk.newAt (w := w) (.cells #[.int .u8 hd, .slice a n c] 69) hF).cell 1
    clear h hn hus hul
    go_enter Tryd.func29, Tryd.ntmps29
    go_wp2_with fail
    rw [← hF]
    clear hF
    generalize w.alloc (.cells #[.int .u8 hd, .slice a n c] 69) = W0 at *
    refine (rnum_any 0 _ [] false hd 1 W0 (HoldsB.nil _ _) (Nat.zero_le _) (by omega) (by omega) (by omega) (by simp)).mono ?_
    rintro r w1 ⟨v1, rfl, h1, -, hb1⟩
    obtain ⟨e1, e2⟩ := rok [] hd 1 (by omega)
    rw [e1, List.nil_append] at h1
    rw [e2]
    obtain ⟨a1, n1, c1, rfl, -⟩ := h1.slice
    have K1 := Kp.mk h1
    have B1 : Kp (Below F w w1) := ⟨HB0.out.trans (hb1.mono (by have := HZ0.out; omega))⟩
    have U1 : Kp (HoldsU w1 F (.slice a n c) us) := ⟨HU0.out.keep hb1⟩
    have Z1 : Kp (F ≤ w1.heap.size) := ⟨by have := HZ0.out; have := hb1.size; omega⟩
    clear h1 hb1 e1 e2 p0 p1 HB0 HU0 HZ0
    go_wp2_with fail
    refine (rnum_any w1.heap.size _ (digs hd 1) false n 1 w1 K1.out (Nat.le_refl _) (by omega) (by omega) (by omega) (by rw [digs_len]; omega)).mono ?_
    rintro r w2 ⟨v2, rfl, h2, -, hb2⟩
    obtain ⟨e1, e2⟩ := rok (digs hd 1) n 1 (by omega)
    rw [e1, HN.out] at h2
    rw [e2]
    obtain ⟨a2, n2, c2, rfl, -⟩ := h2.slice
    obtain ⟨G, hG⟩ : ∃ G, G = w2.heap.size := ⟨_, rfl⟩
    have HG := Kp.mk hG
    have B2 : Kp (Below F w w2) := ⟨B1.out.trans (hb2.mono Z1.out)⟩
    have U2 : Kp (HoldsU w2 F (.slice a n c) us) := ⟨U1.out.keep hb2⟩
    have K2 := Kp.mk h2
    have Z2 : Kp (F ≤ w2.heap.size) := ⟨by have := Z1.out; have := hb2.size; omega⟩
    clear h2 hb2 e1 e2 K1 B1 U1 Z1 hG
    go_wp2_with (refine wpList_store_row rfl 122 (.tmp 4) (.tmp 21) rfl w2.heap.size #[.slice a2 n2 c2, .bool false] rfl rfl 122 _ (Blk.newAt _ rfl) info122s rfl (two_one _ _ _ _) ?_; rw [← HG.out]; refine wpl_world (w := (w2.alloc (.cells #[.slice none 0 0, .bool false] 122)).setRow G #[.slice a2 n2 c2, .bool false]) (fun W => RHSt w F G (.slice a n c) us (.slice a2 n2 c2) (digs hd 1 ++ digs us.length 1) W) ⟨by rw [show ((w2.alloc (.cells #[.slice none 0 0, .bool false] 122)).setRow G #[.slice a2 n2 c2, .bool false]).heap.size = (w2.alloc (.cells #[.slice none 0 0, .bool false] 122)).heap.size by simp [World.setRow]]; exact HoldsB.boxed ((K2.out.alloc _).mono (by simp)) (Blk.newAt _ HG.out) (fun n e => by cases e) _, (Turn.ofRow (Blk.newAt _ HG.out) _).blk, (U2.out.alloc _).turn (Turn.ofRow (Blk.newAt _ HG.out) _) (by rw [HG.out]; exact Z2.out), (B2.out.alloc Z2.out _).trans ((Turn.ofRow (Blk.newAt _ HG.out) _).below (by rw [HG.out]; exact Z2.out) (by have := Z2.out; simp; omega)), by rw [HG.out]; exact Z2.out⟩ ?_; rintro W2 hst; have S2 := Kp.mk hst; clear hst)
    obtain ⟨L2, hL2⟩ : ∃ L2, L2 = digs hd 1 ++ digs us.length 1 := ⟨_, rfl⟩
    have H2 : Kp (L2.length = 2) := ⟨by rw [hL2]; simp [digs_len]⟩
    rw [← hL2] at S2 HE
    clear hL2 K2 B2 U2 Z2
    go_loopw [5] (fun ct wr => ∃ (i : Nat) (av : Option Addr) (nv cv : Nat), i ≤ n ∧ ct = .int .i64 i ∧ RHSt w F G (.slice a n c) us (.slice av nv cv) (L2 ++ numsB (us.take i)) wr) (fun c _ => n - (intOf c).toNat)
    case atStart => exact ⟨0, a2, n2, c2, by omega, rfl, by rw [List.take_zero]; simp only [numsB, List.flatMap_nil, List.append_nil]; exact S2.out⟩
    case round =>
      obtain ⟨i, av, nv, cv, hi', rfl, hst⟩ := hrel
      have HST := Kp.mk hst
      clear hst
      obtain ⟨g0, g1, g2, g3⟩ := HST.out.g.two
      by_cases hlt : i < n
      · obtain ⟨b, off, rfl, -, hc⟩ := HST.out.u.cellAt (i := i) (by have := HN.out; omega)
        have hx := HU.out.at (i := i) (by have := HN.out; omega)
        have HX : Kp (numsB (us.take (i + 1)) = numsB (us.take i) ++ digs (us.getD i 0) 4) := ⟨numsB_step (by have := HN.out; omega)⟩
        have HL : Kp ((L2 ++ numsB (us.take i)).length ≤ 1000) := ⟨by rw [List.length_append, H2.out, numsB_len, List.length_take]; have := H8.out; omega⟩
        generalize us.getD i 0 = x at *
        have HXB := Kp.mk hx
        have hw3 : IntKind.u64.wrap x = x := u64_wrap (by omega)
        clear hx
        go_wp2_with fail
        have HN1 : Kp ((0 ≤ x ∧ x < 18446744073709551616) ∧ 4 ≤ 8 ∧ (L2 ++ numsB (us.take i)).length ≤ 1000000000000 ∧ wr.heap.size ≤ wr.drew.heap.size) := ⟨⟨by have := HXB.out; omega, by have := HXB.out; omega⟩, by omega, by have := HL.out; omega, Nat.le_refl _⟩
        have HOK : Kp ((if 256 ^ 4 ≤ x then L2 ++ numsB (us.take i) else L2 ++ numsB (us.take i) ++ digs x 4) = L2 ++ numsB (us.take (i + 1)) ∧ numF false x 4 = false) := ⟨by rw [HX.out, ← List.append_assoc]; exact rok _ x 4 (by have := HXB.out; omega)⟩
        go_region_with (go_at_call 55; refine (rnum_any wr.heap.size (.slice av nv cv) (L2 ++ numsB (us.take i)) false x 4 _ (HoldsB.drew HST.out.o) HN1.out.2.2.2 HN1.out.1.1 HN1.out.1.2 HN1.out.2.1 HN1.out.2.2.1).mono ?_; rintro r w4 ⟨v4, rfl, h4, -, hb4⟩; rw [HOK.out.1] at h4; rw [HOK.out.2]; obtain ⟨a4, n4, c4, rfl, -⟩ := h4.slice; have HB4 : Kp (Below wr.heap.size wr w4) := ⟨⟨hb4.os, hb4.tape, hb4.output, hb4.size, hb4.block⟩⟩; have H4 := Kp.mk h4; have HG4 := Kp.mk (HST.out.g.keep HB4.out); obtain ⟨j0, j1, j2, j3⟩ := HG4.out.two; clear h4 hb4 g0 g1 g2 g3)
        all_goals go_wp2_with fail
        all_goals exact ⟨⟨i + 1, a4, n4, c4, by omega, by go_num, HST.out.set HB4.out H4.out⟩, by simp [intOf]; omega⟩
      · obtain rfl : i = n := by omega
        have hl : L2 ++ numsB (us.take i) = HB := by rw [HE.out, HN.out, List.take_of_length_le (Nat.le_refl _)]
        have hst := HST.out
        rw [hl] at hst
        have S5 := Kp.mk hst
        clear hl hst HST
        go_wp2_with fail
        go_ret
        exact ⟨_, rfl, S5.out.o, by rw [← HFe.out]; exact S5.out.below⟩
  · obtain ⟨v', hv', hp'⟩ := h.front (k := 8) (by omega)
    have hv8 : ∀ w1, (Instr.sliceAt 67 (.slice a n c) none (some (.int .i64 8)) none).run Tryd.prog w1 = .ok v' w1 := hv'
    obtain ⟨a', n', c', rfl, hn'⟩ := hp'.slice
    obtain ⟨us, hus⟩ : ∃ us, us = l.take 8 := ⟨_, rfl⟩
    have HE : Kp (helloB hd l = digs hd 1 ++ digs us.length 1 ++ numsB us) := ⟨by rw [hus]; rfl⟩
    rw [← hus] at hp' hn'
    have h8 : us.length ≤ 8 := by rw [hus, List.length_take]; omega
    have HN := Kp.mk hn'
    have H8 := Kp.mk h8
    have HU : Kp (U32s us) := ⟨hp'.u32s⟩
    have hn8 : n' ≤ 8 := by omega
    have hw2 : IntKind.u64.wrap (n' : Int) = n' := u64_wrap (by omega)
    generalize helloB hd l = HB at *
    have hc' : (8 : Int) < n := by omega
    have HB0 : Kp (Below F w (w.alloc (.cells #[.int .u8 hd, .slice a n c] 69))) := ⟨by rw [hF]; exact more (Below.refl _ _) _⟩
    have HZ0 : Kp (F + 1 = (w.alloc (.cells #[.int .u8 hd, .slice a n c] 69)).heap.size) := ⟨by simp [hF]⟩
    have HU0 : Kp (HoldsU (w.alloc (.cells #[.int .u8 hd, .slice a n c] 69)) F (.slice a' n' c') us) := ⟨by rw [hF]; exact hp'.alloc _⟩
    have p0 : (w.alloc (.cells #[.int .u8 hd, .slice a n c] 69)).cell? ⟨F, 0, none⟩ = some (.int .u8 hd) := (Blk.newAt (w := w) (.cells #[.int .u8 hd, .slice a n c] 69) hF).cell 0
    have p1 : (w.alloc (.cells #[.int .u8 hd, .slice a n c] 69)).cell? ⟨F, 1, none⟩ = some (.slice a n c) := (Blk.newAt (w := w) (.cells #[.int .u8 hd, .slice a n c] 69) hF).cell 1
    clear h hn hus hp' hn' h8 hv'
    go_enter Tryd.func29, Tryd.ntmps29
    go_wp2_with fail
    rw [← hF]
    clear hF
    generalize w.alloc (.cells #[.int .u8 hd, .slice a n c] 69) = W0 at *
    refine (rnum_any 0 _ [] false hd 1 W0 (HoldsB.nil _ _) (Nat.zero_le _) (by omega) (by omega) (by omega) (by simp)).mono ?_
    rintro r w1 ⟨v1, rfl, h1, -, hb1⟩
    obtain ⟨e1, e2⟩ := rok [] hd 1 (by omega)
    rw [e1, List.nil_append] at h1
    rw [e2]
    obtain ⟨a1, n1, c1, rfl, -⟩ := h1.slice
    have K1 := Kp.mk h1
    have B1 : Kp (Below F w w1) := ⟨HB0.out.trans (hb1.mono (by have := HZ0.out; omega))⟩
    have U1 : Kp (HoldsU w1 F (.slice a' n' c') us) := ⟨HU0.out.keep hb1⟩
    have Z1 : Kp (F ≤ w1.heap.size) := ⟨by have := HZ0.out; have := hb1.size; omega⟩
    clear h1 hb1 e1 e2 p0 p1 HB0 HU0 HZ0
    go_wp2_with fail
    refine (rnum_any w1.heap.size _ (digs hd 1) false n' 1 w1 K1.out (Nat.le_refl _) (by omega) (by omega) (by omega) (by rw [digs_len]; omega)).mono ?_
    rintro r w2 ⟨v2, rfl, h2, -, hb2⟩
    obtain ⟨e1, e2⟩ := rok (digs hd 1) n' 1 (by omega)
    rw [e1, HN.out] at h2
    rw [e2]
    obtain ⟨a2, n2, c2, rfl, -⟩ := h2.slice
    obtain ⟨G, hG⟩ : ∃ G, G = w2.heap.size := ⟨_, rfl⟩
    have HG := Kp.mk hG
    have B2 : Kp (Below F w w2) := ⟨B1.out.trans (hb2.mono Z1.out)⟩
    have U2 : Kp (HoldsU w2 F (.slice a' n' c') us) := ⟨U1.out.keep hb2⟩
    have K2 := Kp.mk h2
    have Z2 : Kp (F ≤ w2.heap.size) := ⟨by have := Z1.out; have := hb2.size; omega⟩
    clear h2 hb2 e1 e2 K1 B1 U1 Z1 hG
    go_wp2_with (refine wpList_store_row rfl 122 (.tmp 4) (.tmp 21) rfl w2.heap.size #[.slice a2 n2 c2, .bool false] rfl rfl 122 _ (Blk.newAt _ rfl) info122s rfl (two_one _ _ _ _) ?_; rw [← HG.out]; refine wpl_world (w := (w2.alloc (.cells #[.slice none 0 0, .bool false] 122)).setRow G #[.slice a2 n2 c2, .bool false]) (fun W => RHSt w F G (.slice a' n' c') us (.slice a2 n2 c2) (digs hd 1 ++ digs us.length 1) W) ⟨by rw [show ((w2.alloc (.cells #[.slice none 0 0, .bool false] 122)).setRow G #[.slice a2 n2 c2, .bool false]).heap.size = (w2.alloc (.cells #[.slice none 0 0, .bool false] 122)).heap.size by simp [World.setRow]]; exact HoldsB.boxed ((K2.out.alloc _).mono (by simp)) (Blk.newAt _ HG.out) (fun n e => by cases e) _, (Turn.ofRow (Blk.newAt _ HG.out) _).blk, (U2.out.alloc _).turn (Turn.ofRow (Blk.newAt _ HG.out) _) (by rw [HG.out]; exact Z2.out), (B2.out.alloc Z2.out _).trans ((Turn.ofRow (Blk.newAt _ HG.out) _).below (by rw [HG.out]; exact Z2.out) (by have := Z2.out; simp; omega)), by rw [HG.out]; exact Z2.out⟩ ?_; rintro W2 hst; have S2 := Kp.mk hst; clear hst)
    obtain ⟨L2, hL2⟩ : ∃ L2, L2 = digs hd 1 ++ digs us.length 1 := ⟨_, rfl⟩
    have H2 : Kp (L2.length = 2) := ⟨by rw [hL2]; simp [digs_len]⟩
    rw [← hL2] at S2 HE
    clear hL2 K2 B2 U2 Z2
    go_loopw [5] (fun ct wr => ∃ (i : Nat) (av : Option Addr) (nv cv : Nat), i ≤ n' ∧ ct = .int .i64 i ∧ RHSt w F G (.slice a' n' c') us (.slice av nv cv) (L2 ++ numsB (us.take i)) wr) (fun c _ => n' - (intOf c).toNat)
    case atStart => exact ⟨0, a2, n2, c2, by omega, rfl, by rw [List.take_zero]; simp only [numsB, List.flatMap_nil, List.append_nil]; exact S2.out⟩
    case round =>
      obtain ⟨i, av, nv, cv, hi', rfl, hst⟩ := hrel
      have HST := Kp.mk hst
      clear hst
      obtain ⟨g0, g1, g2, g3⟩ := HST.out.g.two
      by_cases hlt : i < n'
      · obtain ⟨b, off, rfl, -, hc⟩ := HST.out.u.cellAt (i := i) (by have := HN.out; omega)
        have hx := HU.out.at (i := i) (by have := HN.out; omega)
        have HX : Kp (numsB (us.take (i + 1)) = numsB (us.take i) ++ digs (us.getD i 0) 4) := ⟨numsB_step (by have := HN.out; omega)⟩
        have HL : Kp ((L2 ++ numsB (us.take i)).length ≤ 1000) := ⟨by rw [List.length_append, H2.out, numsB_len, List.length_take]; have := H8.out; omega⟩
        generalize us.getD i 0 = x at *
        have HXB := Kp.mk hx
        have hw3 : IntKind.u64.wrap x = x := u64_wrap (by omega)
        clear hx
        go_wp2_with fail
        have HN1 : Kp ((0 ≤ x ∧ x < 18446744073709551616) ∧ 4 ≤ 8 ∧ (L2 ++ numsB (us.take i)).length ≤ 1000000000000 ∧ wr.heap.size ≤ wr.drew.heap.size) := ⟨⟨by have := HXB.out; omega, by have := HXB.out; omega⟩, by omega, by have := HL.out; omega, Nat.le_refl _⟩
        have HOK : Kp ((if 256 ^ 4 ≤ x then L2 ++ numsB (us.take i) else L2 ++ numsB (us.take i) ++ digs x 4) = L2 ++ numsB (us.take (i + 1)) ∧ numF false x 4 = false) := ⟨by rw [HX.out, ← List.append_assoc]; exact rok _ x 4 (by have := HXB.out; omega)⟩
        go_region_with (go_at_call 55; refine (rnum_any wr.heap.size (.slice av nv cv) (L2 ++ numsB (us.take i)) false x 4 _ (HoldsB.drew HST.out.o) HN1.out.2.2.2 HN1.out.1.1 HN1.out.1.2 HN1.out.2.1 HN1.out.2.2.1).mono ?_; rintro r w4 ⟨v4, rfl, h4, -, hb4⟩; rw [HOK.out.1] at h4; rw [HOK.out.2]; obtain ⟨a4, n4, c4, rfl, -⟩ := h4.slice; have HB4 : Kp (Below wr.heap.size wr w4) := ⟨⟨hb4.os, hb4.tape, hb4.output, hb4.size, hb4.block⟩⟩; have H4 := Kp.mk h4; have HG4 := Kp.mk (HST.out.g.keep HB4.out); obtain ⟨j0, j1, j2, j3⟩ := HG4.out.two; clear h4 hb4 g0 g1 g2 g3)
        all_goals go_wp2_with fail
        all_goals exact ⟨⟨i + 1, a4, n4, c4, by omega, by go_num, HST.out.set HB4.out H4.out⟩, by simp [intOf]; omega⟩
      · obtain rfl : i = n' := by omega
        have hl : L2 ++ numsB (us.take i) = HB := by rw [HE.out, HN.out, List.take_of_length_le (Nat.le_refl _)]
        have hst := HST.out
        rw [hl] at hst
        have S5 := Kp.mk hst
        clear hl hst HST
        go_wp2_with fail
        go_ret
        exact ⟨_, rfl, S5.out.o, by rw [← HFe.out]; exact S5.out.below⟩
end Go.Proofs.YtgabjmmmiogfjaaDoor
