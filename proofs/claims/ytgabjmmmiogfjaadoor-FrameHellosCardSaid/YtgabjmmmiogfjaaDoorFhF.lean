/-
  The document's GetHello.
-/
import Derived.Test.YtgabjmmmiogfjaaDoorFhE
namespace Go.Proofs.YtgabjmmmiogfjaaDoor
open Go.RowKit

theorem gN_big {B : List Int} (h : 8 < gN B) : gE2 B = 0 := by
  unfold gN at h
  unfold gE2
  by_cases hc : gE1 B = 0 ∧ 1 ≤ B.length - gA1 B
  · unfold rawE
    rw [if_neg (by omega)]
    exact hc.1
  · unfold rawP at h
    rw [if_neg hc] at h
    exact absurd h (by decide)
theorem RefIs.put {w : World} {M R at' : Nat} {B : List Int} {e : Int} (h : RefIs w M R B at' e) (f : Int) : RefStep M R B at' f w (w.setCell ⟨R, 2, none⟩ (.int .i64 f)) := by
  obtain ⟨h1, ⟨v, hv, hb⟩, h3⟩ := h
  have hT := (Turn.same hb).set 2 (.int .i64 f)
  exact ⟨⟨h1, ⟨v, hv.turn hT h1, hT.blk⟩, h3⟩, _, hT⟩
set_option maxRecDepth 100000 in
set_option maxHeartbeats 16000000 in
theorem rghello_any (M : Nat) (v : Value) (B : List Int) (w : World) (h : HoldsB w M v B) (hM : M ≤ w.heap.size) : Calls Tryd.prog 31 #[v] w (HelloPost B w) := by
  have HBB := Kp.mk h.bytes
  have H0 := Kp.mk h
  obtain ⟨va, vn, vc, rfl, -⟩ := h.slice
  obtain ⟨i0, hi, hz0, hz1, hz2⟩ := info_parts info98'
  obtain ⟨R, hR⟩ : ∃ R, R = w.heap.size := ⟨_, rfl⟩
  have HRe := Kp.mk hR
  obtain ⟨I, hI⟩ : ∃ I, I = w.heap.size + 1 := ⟨_, rfl⟩
  have hRI : R < I := by omega
  clear h
  go_enter Tryd.func31, Tryd.ntmps31
  go_wp2_with fail
  rw [← hI, ← hR]
  have D0 : Kp (RefIs ((w.alloc (HZ 69)).alloc (.cells #[.slice va vn vc, .int .i64 0, .int .i64 0] 92)) M I B 0 0 ∧ Blk ((w.alloc (HZ 69)).alloc (.cells #[.slice va vn vc, .int .i64 0, .int .i64 0] 92)) R (HZ 69) ∧ Below R w ((w.alloc (HZ 69)).alloc (.cells #[.slice va vn vc, .int .i64 0, .int .i64 0] 92)) ∧ R < I) :=
    ⟨⟨by omega, ⟨_, (H0.out.alloc _).alloc _, Blk.newAt _ (by simp [hI])⟩, by omega⟩, (Blk.newAt _ hR).old _, by rw [hR]; exact more (more (Below.refl _ _) _) _, hRI⟩
  clear hR hI H0 hRI hM
  generalize (w.alloc (HZ 69)).alloc (.cells #[.slice va vn vc, .int .i64 0, .int .i64 0] 92) = w0 at *
  refine (num_any M I B 0 0 1 _ D0.out.1 (by decide)).mono ?_
  rintro r w2 ⟨rfl, s1⟩
  rw [show numOf (rawP B 0 0 1) = gHd B from rfl]
  have E1 : Kp (RefIs w2 M I B (gA1 B) (gE1 B)) := ⟨s1.is⟩
  have E2 := Kp.mk (s1.keep D0.out.2.1 (by have := D0.out.2.2.2; omega))
  have E3 : Kp (Below R w w2) := ⟨by obtain ⟨_, o, ho⟩ := s1; exact D0.out.2.2.1.trans (ho.below (by have := D0.out.2.2.2; omega) (by have := D0.out.2.1.lt; omega))⟩
  have LR := Kp.mk D0.out.2.2.2
  have hd0 := gHd_lt HBB.out
  obtain ⟨hd, hhd⟩ : ∃ hd, hd = gHd B := ⟨_, rfl⟩
  have HHD := Kp.mk hhd
  rw [← hhd] at hd0 ⊢
  have hwd : IntKind.u8.wrap hd = hd := by simp [IntKind.wrap, IntKind.bits, IntKind.signed]; omega
  have LI : Kp (I < w2.heap.size) := ⟨E1.out.lt⟩
  clear s1 D0 hhd hd0
  obtain ⟨H, hH⟩ : ∃ H, H = w2.heap.size := ⟨_, rfl⟩
  have HHe := Kp.mk hH
  clear hH
  go_wp2_with (refine wpList_store_row rfl 69 (.tmp 5) (.tmp 15) rfl w2.heap.size #[.int .u8 hd, .slice none 0 0] rfl rfl 69 _ (Blk.newAt _ rfl) info69s rfl (h_one _ _ _ _) ?_; rw [← HHe.out]; refine wpl_world (w := (w2.alloc (HZ 69)).setRow H #[.int .u8 hd, .slice none 0 0]) (fun W => RGSt w R I H hd (.slice none 0 0) [] M B (gA1 B) (gE1 B) W) ⟨(E1.out.keep (more (Below.refl _ _) _)).turn (Turn.ofRow (Blk.newAt _ HHe.out) _) (by have := LI.out; have := HHe.out; have := E1.out.le; omega) (by have := LI.out; have := HHe.out; omega), (Turn.ofRow (Blk.newAt _ HHe.out) _).keep (E2.out.old _) (by have := LI.out; have := LR.out; have := HHe.out; omega), (Turn.ofRow (Blk.newAt _ HHe.out) _).blk, World.ownsRow_nil _ _ _ _, U32s.nil, (E3.out.alloc (by have := E2.out.lt; omega) _).trans ((Turn.ofRow (Blk.newAt _ HHe.out) _).below (by have := LI.out; have := LR.out; have := HHe.out; omega) (by have := E2.out.lt; simp; omega)), LR.out, by rw [HHe.out]; exact LI.out⟩ ?_; rintro W2 hst; have S1 := Kp.mk hst; clear hst)
  refine (num_any M I B _ _ 1 W2 S1.out.i (by decide)).mono ?_
  rintro r w3 ⟨rfl, s3⟩
  rw [show numOf (rawP B (gA1 B) (gE1 B) 1) = gN B from rfl]
  have S2 : Kp (RGSt w R I H hd (.slice none 0 0) [] M B (gA2 B) (gE2 B) w3) := ⟨S1.out.read s3⟩
  have HNL := Kp.mk (gN_lt HBB.out)
  have HK := Kp.mk (gK_le HBB.out)
  have c2 : w3.cell? ⟨I, 2, none⟩ = some (.int .i64 (gE2 B)) := by
    obtain ⟨_, ⟨u, _, hb⟩, _⟩ := S2.out.i
    exact hb.cell 2
  have f2 : w3.frozen? ⟨I, 2, none⟩ = false := by
    obtain ⟨_, ⟨u, _, hb⟩, _⟩ := S2.out.i
    exact hb.frozen 2
  have HN8 : Kp (8 < gN B → gE2 B = 0) := ⟨gN_big⟩
  have HE3 : Kp (gE3 B = if 8 < gN B then failE (gE2 B) 8 else gE2 B) := ⟨rfl⟩
  have HGK : Kp (gK B = if 8 < gN B then 0 else (gN B).toNat) := ⟨rfl⟩
  have hwn : IntKind.i64.wrap (gN B) = gN B := IntWalk.i64_in _ (by have := HNL.out; omega)
  obtain ⟨k, hke⟩ : ∃ k, k = gK B := ⟨_, rfl⟩
  have HKE := Kp.mk hke
  rw [← hke] at HK HGK
  have hk8 : k ≤ 8 := HK.out
  obtain ⟨e2, he2⟩ : ∃ e, e = gE2 B := ⟨_, rfl⟩
  rw [← he2] at c2 HN8 HE3 S2
  obtain ⟨n, hn⟩ : ∃ n, n = gN B := ⟨_, rfl⟩
  rw [← hn] at HNL HN8 HE3 HGK hwn ⊢
  have h0S : Kp (hS B 0 = (gA2 B, gE3 B)) := ⟨rfl⟩
  clear s3 hke E1 E2 E3 S1 he2 hn
  by_cases h8 : 8 < n
  · obtain rfl : e2 = 0 := HN8.out h8
    have HE4 : Kp (gE3 B = 8) := ⟨by rw [HE3.out, if_pos h8]; rfl⟩
    have HK0 : Kp (k = 0) := ⟨by rw [HGK.out, if_pos h8]⟩
    have HNK : Kp (∀ i, i ≤ k → (hS B i).2 = 0 → n = (k : Int)) := ⟨fun i hi' he => by
      obtain rfl : i = 0 := by have := HK0.out; omega
      rw [h0S.out] at he
      simp only [HE4.out] at he
      exact absurd he (by decide)⟩
    have S3 : Kp (RGSt w R I H hd (.slice none 0 0) (hW B 0) M B (hS B 0).1 (hS B 0).2 (w3.setCell ⟨I, 2, none⟩ (.int .i64 8))) := ⟨by rw [h0S.out]; simp only [HE4.out]; exact S2.out.read (S2.out.i.put 8)⟩
    clear S2
    go_wp2_with fail
    clear c2 f2
    generalize w3.setCell ⟨I, 2, none⟩ (.int .i64 8) = W3 at *
    go_loopw [7] (fun ct wr => ∃ (i : Nat) (av : Option Addr) (nv cv : Nat), i ≤ k ∧ ct = .int .i64 i ∧ RGSt w R I H hd (.slice av nv cv) (hW B i) M B (hS B i).1 (hS B i).2 wr) (fun ct _ => k - (intOf ct).toNat)
    case atStart => exact ⟨0, none, 0, 0, by omega, rfl, S3.out⟩
    case round =>
      obtain ⟨i, av, nv, cv, hi', rfl, hst⟩ := hrel
      have S0 := Kp.mk hst
      clear hst
      have c2 : wr.cell? ⟨I, 2, none⟩ = some (.int .i64 (hS B i).2) := by
        obtain ⟨_, ⟨u, _, hb⟩, _⟩ := S0.out.i
        exact hb.cell 2
      by_cases he : (hS B i).2 = 0
      · have hNk : n = (k : Int) := HNK.out i hi' he
        have h0 := HK0.out
        exfalso
        omega
      · by_cases hin : (i : Int) < n
        · have HSK : Kp (hS B (gK B) = hS B i) := ⟨by have := hS_stay (i := i) he (gK B - i); rw [show i + (gK B - i) = gK B by have := HKE.out; omega] at this; exact this⟩
          have hg : gEnd B ≠ 0 := by
            unfold gEnd
            rw [HSK.out]
            have : rleft B (hS B i).1 (hS B i).2 = 0 := by unfold rleft; rw [if_neg he]
            rw [this, if_neg (by omega)]
            exact he
          have hek : ((hS B i).2 == 0) = false := by simpa using he
          go_wp2_with fail
          clear c2 hek he
          refine (rend_any M I B _ _ wr S0.out.i).mono ?_
          rintro r w5 ⟨rfl, o5, h5⟩
          rw [← HSK.out, show (if 0 < rleft B (hS B (gK B)).1 (hS B (gK B)).2 then 10 else (hS B (gK B)).2) = gEnd B from rfl]
          have S5 : Kp (Blk w5 R (HZ 69) ∧ Blk w5 H (.cells #[.int .u8 hd, .slice av nv cv] 69) ∧ w5.ownsRow (H + 1) 98 1 (.slice av nv cv) (hW B i).length (uv (hW B i)) ∧ Below R w w5 ∧ R < H) := ⟨h5.keep S0.out.r (by have := S0.out.ri; omega), h5.keep S0.out.h (by have := S0.out.ih; omega), ownsRow_turn S0.out.o h5 (by have := S0.out.ih; omega), S0.out.below.trans (h5.below (by have := S0.out.ri; omega) (by have := S0.out.r.lt; omega)), by have := S0.out.ri; have := S0.out.ih; omega⟩
          have HU5 := Kp.mk S0.out.u
          clear h5 S0
          have HGE := Kp.mk hg
          have hne : (gEnd B != 0) = true := by simpa using hg
          obtain ⟨E, hE⟩ : ∃ E, E = gEnd B := ⟨_, rfl⟩
          have HE := Kp.mk hE
          rw [← hE] at hne ⊢
          clear hg hE
          go_wp2_with (refine wpList_store_row rfl 69 (.tmp 2) (.tmp 55) rfl R #[.int .u8 0, .slice none 0 0] rfl rfl 69 _ S5.out.1 info69s rfl (h_one _ _ _ _) ?_; refine wpl_world (w := w5.setRow R #[.int .u8 0, .slice none 0 0]) (fun W => Blk W R (HZ 69) ∧ Below R w W) ⟨(Turn.ofRow S5.out.1 _).blk, S5.out.2.2.2.1.trans ((Turn.ofRow S5.out.1 _).below (Nat.le_refl _) (by have := S5.out.1.lt; omega))⟩ ?_; rintro W6 h6; have S6 := Kp.mk h6; clear h6)
          exact bodyPost_ret (results_row_tmp' rfl _ _ R 69 _ _ _ (.int .i64 E) rfl rfl S6.out.1 Tryd.underlying69 rfl info69s) rfl ⟨none, 0, 0, by unfold gX; rw [if_neg HGE.out, HE.out], by unfold gW; rw [if_neg HGE.out]; exact HoldsU.nil _ _, by rw [← HRe.out]; exact S6.out.2⟩
        · have HSK : Kp (hS B (gK B) = hS B i) := ⟨by have := hS_stay (i := i) he (gK B - i); rw [show i + (gK B - i) = gK B by have := HKE.out; omega] at this; exact this⟩
          have hg : gEnd B ≠ 0 := by
            unfold gEnd
            rw [HSK.out]
            have : rleft B (hS B i).1 (hS B i).2 = 0 := by unfold rleft; rw [if_neg he]
            rw [this, if_neg (by omega)]
            exact he
          have hek : ((hS B i).2 == 0) = false := by simpa using he
          go_wp2_with fail
          clear c2 hek he
          refine (rend_any M I B _ _ wr S0.out.i).mono ?_
          rintro r w5 ⟨rfl, o5, h5⟩
          rw [← HSK.out, show (if 0 < rleft B (hS B (gK B)).1 (hS B (gK B)).2 then 10 else (hS B (gK B)).2) = gEnd B from rfl]
          have S5 : Kp (Blk w5 R (HZ 69) ∧ Blk w5 H (.cells #[.int .u8 hd, .slice av nv cv] 69) ∧ w5.ownsRow (H + 1) 98 1 (.slice av nv cv) (hW B i).length (uv (hW B i)) ∧ Below R w w5 ∧ R < H) := ⟨h5.keep S0.out.r (by have := S0.out.ri; omega), h5.keep S0.out.h (by have := S0.out.ih; omega), ownsRow_turn S0.out.o h5 (by have := S0.out.ih; omega), S0.out.below.trans (h5.below (by have := S0.out.ri; omega) (by have := S0.out.r.lt; omega)), by have := S0.out.ri; have := S0.out.ih; omega⟩
          have HU5 := Kp.mk S0.out.u
          clear h5 S0
          have HGE := Kp.mk hg
          have hne : (gEnd B != 0) = true := by simpa using hg
          obtain ⟨E, hE⟩ : ∃ E, E = gEnd B := ⟨_, rfl⟩
          have HE := Kp.mk hE
          rw [← hE] at hne ⊢
          clear hg hE
          go_wp2_with (refine wpList_store_row rfl 69 (.tmp 2) (.tmp 55) rfl R #[.int .u8 0, .slice none 0 0] rfl rfl 69 _ S5.out.1 info69s rfl (h_one _ _ _ _) ?_; refine wpl_world (w := w5.setRow R #[.int .u8 0, .slice none 0 0]) (fun W => Blk W R (HZ 69) ∧ Below R w W) ⟨(Turn.ofRow S5.out.1 _).blk, S5.out.2.2.2.1.trans ((Turn.ofRow S5.out.1 _).below (Nat.le_refl _) (by have := S5.out.1.lt; omega))⟩ ?_; rintro W6 h6; have S6 := Kp.mk h6; clear h6)
          exact bodyPost_ret (results_row_tmp' rfl _ _ R 69 _ _ _ (.int .i64 E) rfl rfl S6.out.1 Tryd.underlying69 rfl info69s) rfl ⟨none, 0, 0, by unfold gX; rw [if_neg HGE.out, HE.out], by unfold gW; rw [if_neg HGE.out]; exact HoldsU.nil _ _, by rw [← HRe.out]; exact S6.out.2⟩
  · have HE4 : Kp (gE3 B = e2) := ⟨by rw [HE3.out, if_neg h8]⟩
    have HNK : Kp (∀ i, i ≤ k → (hS B i).2 = 0 → n = (k : Int)) := ⟨fun i hi' he => by have := HGK.out; rw [if_neg h8] at this; have := HNL.out; omega⟩
    have S3 : Kp (RGSt w R I H hd (.slice none 0 0) (hW B 0) M B (hS B 0).1 (hS B 0).2 w3) := ⟨by rw [h0S.out]; simp only [HE4.out]; exact S2.out⟩
    clear S2
    by_cases hz : e2 = 0
    · subst hz
      go_wp2_with fail
      clear c2 f2
      go_loopw [7] (fun ct wr => ∃ (i : Nat) (av : Option Addr) (nv cv : Nat), i ≤ k ∧ ct = .int .i64 i ∧ RGSt w R I H hd (.slice av nv cv) (hW B i) M B (hS B i).1 (hS B i).2 wr) (fun ct _ => k - (intOf ct).toNat)
      case atStart => exact ⟨0, none, 0, 0, by omega, rfl, S3.out⟩
      case round =>
        obtain ⟨i, av, nv, cv, hi', rfl, hst⟩ := hrel
        have S0 := Kp.mk hst
        clear hst
        have c2 : wr.cell? ⟨I, 2, none⟩ = some (.int .i64 (hS B i).2) := by
          obtain ⟨_, ⟨u, _, hb⟩, _⟩ := S0.out.i
          exact hb.cell 2
        by_cases he : (hS B i).2 = 0
        · have hNk : n = (k : Int) := HNK.out i hi' he
          have hek : ((hS B i).2 == 0) = true := by simpa using he
          by_cases hlt : i < k
          · have hin : (i : Int) < n := by omega
            clear hNk
            obtain ⟨x, hxe⟩ : ∃ x, x = hX B i := ⟨_, rfl⟩
            have HX : Kp (0 ≤ x ∧ x ≤ 4294967295) := ⟨by rw [hxe]; exact hX_lt HBB.out i⟩
            have HXE := Kp.mk hxe
            have hwx : IntKind.u32.wrap x = x := by have := HX.out; simp [IntKind.wrap, IntKind.bits, IntKind.signed]; omega
            obtain ⟨us, hus⟩ : ∃ us, us = hW B i := ⟨_, rfl⟩
            have HUS := Kp.mk hus
            have HUL : Kp (us.length ≤ 8) := ⟨by rw [hus, hW_len]; omega⟩
            rw [← hus] at S0
            clear hxe hus
            clear he
            go_wp2_with fail
            clear c2 hek
            refine wp_region_any (by kernel_rfl) ?_
            change wpAny _ _ _ _ _ _ _ (World.drew _)
            refine wpAny_take (i := 0) (oi := { dst := some 43, op := Go.Op.fieldAddr 69 (Go.Operand.tmp 5) 1, type := 0, pos := "ref.go:219", after := #[], guard := none }) (v := .pointer (some ⟨H, 1, none⟩)) rfl (by kernel_rfl) (by kernel_rfl) (by kernel_rfl) (fun _ _ _ h => h) (Or.inl ⟨by rfl, fun w => by first | rfl | go_simp⟩) ?_
            simp only [Act.put, List.setIfInBounds_toArray, List.set_cons_zero, List.set_cons_succ]
            refine wpAny_take (i := 2) (oi := { dst := some 45, op := Go.Op.move (Go.Operand.tmp 4), type := 90, pos := "ref.go:219", after := #[], guard := none }) (v := .pointer (some ⟨I, 0, none⟩)) rfl (by kernel_rfl) (by kernel_rfl) (by kernel_rfl) (fun _ _ _ h => h) (Or.inl ⟨by rfl, fun w => by first | rfl | go_simp⟩) ?_
            simp only [Act.put, List.setIfInBounds_toArray, List.set_cons_zero, List.set_cons_succ]
            refine wpAny_ready (rs := [1, 3]) (by kernel_rfl) (by simp) ?_
            refine AllReady.cons (o := { dst := some 44, op := Go.Op.load 67 (Go.Operand.tmp 43), type := 67, pos := "ref.go:219", after := #[{ on := 0, ground := Go.Ground.data }], guard := none }) rfl (fun K hK => ?_) (AllReady.cons (o := { dst := some 46, op := Go.Op.call { callee := Go.Callee.value (Go.Operand.func 42), args := #[Go.Operand.tmp 45, Go.Operand.const (Go.Value.int Go.IntKind.i64 4)], argTypes := #[90, 3] }, type := 23, pos := "ref.go:219", after := #[{ on := 2, ground := Go.Ground.data }], guard := none }) rfl (fun K hK => ?_) AllReady.nil)
            · have q2 : wr.cell? ⟨H, 1, none⟩ = some (.slice av nv cv) := S0.out.h.cell 1
              go_simp
              clear q2
              refine hK _ _ ?_
              clear hK K
              try simp only [Act.put, List.setIfInBounds_toArray, List.set_cons_zero, List.set_cons_succ]
              refine wpAny_ready (rs := [3]) (by kernel_rfl) (by simp) ?_
              refine AllReady.cons (o := { dst := some 46, op := Go.Op.call { callee := Go.Callee.value (Go.Operand.func 42), args := #[Go.Operand.tmp 45, Go.Operand.const (Go.Value.int Go.IntKind.i64 4)], argTypes := #[90, 3] }, type := 23, pos := "ref.go:219", after := #[{ on := 2, ground := Go.Ground.data }], guard := none }) rfl (fun K hK => ?_) AllReady.nil
              go_simp
              refine (num_any M I B (hS B i).1 (hS B i).2 4 _ S0.out.i.drew (by decide)).mono ?_
              rintro r w1 ⟨rfl, s1⟩
              rw [show numOf (rawP B (hS B i).1 (hS B i).2 4) = hX B i from rfl, ← HXE.out]
              have S1 := Kp.mk ((S0.out.drew).read s1)
              clear s1
              refine hK _ _ ?_
              clear hK K
              try simp only [Act.put, List.setIfInBounds_toArray, List.set_cons_zero, List.set_cons_succ]
              refine wpAny_take (i := 4) (oi := { dst := some 47, op := Go.Op.convert 23 98 (Go.Operand.tmp 46), type := 98, pos := "ref.go:219", after := #[{ on := 3, ground := Go.Ground.data }], guard := none }) (v := .int .u32 x) rfl (by kernel_rfl) (by kernel_rfl) (by kernel_rfl) (fun _ _ _ h => h) (Or.inl ⟨by rfl, fun w => by go_simp⟩) ?_
              simp only [Act.put, List.setIfInBounds_toArray, List.set_cons_zero, List.set_cons_succ]
              refine wpAny_ready (rs := [5]) (by kernel_rfl) (by simp) ?_
              refine AllReady.cons (o := { dst := some 48, op := Go.Op.buildSlice 67 1 #[(0, Go.Operand.tmp 47)], type := 67, pos := "ref.go:219", after := #[{ on := 4, ground := Go.Ground.data }], guard := none }) rfl (fun K hK => ?_) AllReady.nil
              go_simp
              refine hK _ _ ?_
              clear hK K
              try simp only [Act.put, List.setIfInBounds_toArray, List.set_cons_zero, List.set_cons_succ]
              refine wpAny_ready (rs := [6]) (by kernel_rfl) (by simp) ?_
              refine AllReady.cons (o := { dst := some 49, op := Go.Op.call { callee := Go.Callee.builtin Go.Builtin.append, args := #[Go.Operand.tmp 44, Go.Operand.tmp 48], argTypes := #[67, 67] }, type := 67, pos := "ref.go:219", after := #[{ on := 1, ground := Go.Ground.data }, { on := 5, ground := Go.Ground.data }, { on := 3, ground := Go.Ground.chain }], guard := none }) rfl (fun K hK => ?_) AllReady.nil
              refine step_append_lies _ rfl (.tmp 44) (.tmp 48) 67 rfl (H + 1) 98 i0 (.int .u32 0) 1 4 Tryd.underlying67 hi hz0 hz1 hz2 rfl (by decide) (.slice av nv cv) us.length (uv us) rfl (ownsRow_below S1.out.o (more (Below.refl _ _) _)) ⟨w1.heap.size, 0, none⟩ 1 1 [.int .u32 x] rfl rfl ?d0 ?d1 (by decide) ?d3 ?d4 ?d5 (w1.heap.size + 1) ?d6 ?_
              case d0 => exact World.news_of_block (Blk.new w1 (.cells #[.int .u32 x] 98))
              case d1 => intro u hu; simp only [List.mem_singleton] at hu; rw [hu]; rfl
              case d3 => have := HUL.out; unfold maxLen; omega
              case d4 => have := HUL.out; omega
              case d5 => have := S1.out.h.lt; simp; omega
              case d6 => simp
              intro g capN w3 ho hg hv hlt
              have H3 : Kp (Blk w3 H (.cells #[.int .u8 hd, .slice av nv cv] 69)) := ⟨S1.out.h.upto (below_row_grown (B := H + 1) ((more (Below.refl _ _) _).mono (by have := S1.out.h.lt; omega)) (by have := S1.out.h.lt; simp; omega) (ownsRow_below S1.out.o (more (Below.refl _ _) _)) hg) (by omega)⟩
              have S3 := Kp.mk (S1.out.app HX.out ho hg)
              clear ho hg hv hlt S1
              refine hK _ _ ?_
              clear hK K
              try simp only [Act.put, List.setIfInBounds_toArray, List.set_cons_zero, List.set_cons_succ]
              refine wpAny_take (i := 7) (oi := { dst := some 50, op := Go.Op.fieldAddr 69 (Go.Operand.tmp 5) 1, type := 0, pos := "ref.go:219", after := #[{ on := 0, ground := Go.Ground.phase }, { on := 1, ground := Go.Ground.phase }, { on := 2, ground := Go.Ground.phase }, { on := 3, ground := Go.Ground.phase }, { on := 4, ground := Go.Ground.phase }, { on := 5, ground := Go.Ground.phase }, { on := 6, ground := Go.Ground.phase }], guard := none }) (v := .pointer (some ⟨H, 1, none⟩)) rfl (by kernel_rfl) (by kernel_rfl) (by kernel_rfl) (fun _ _ _ h => h) (Or.inl ⟨by rfl, fun w => by first | rfl | go_simp⟩) ?_
              simp only [Act.put, List.setIfInBounds_toArray, List.set_cons_zero, List.set_cons_succ]
              refine wpAny_ready (rs := [8]) (by kernel_rfl) (by simp) ?_
              refine AllReady.cons (o := { dst := none, op := Go.Op.store 67 (Go.Operand.tmp 50) (Go.Operand.tmp 49), type := 0, pos := "ref.go:219", after := #[{ on := 7, ground := Go.Ground.data }, { on := 6, ground := Go.Ground.data }, { on := 6, ground := Go.Ground.chain }, { on := 0, ground := Go.Ground.phase }, { on := 1, ground := Go.Ground.phase }, { on := 2, ground := Go.Ground.phase }, { on := 3, ground := Go.Ground.phase }, { on := 4, ground := Go.Ground.phase }, { on := 5, ground := Go.Ground.phase }, { on := 6, ground := Go.Ground.phase }], guard := none }) rfl (fun K hK => ?_) AllReady.nil
              have q2 := H3.out.cell 1
              have q3 := H3.out.frozen 1
              go_simp
              clear q2 q3
              refine hK _ _ ?_
              clear hK K
              try simp only [Act.put, List.setIfInBounds_toArray, List.set_cons_zero, List.set_cons_succ]
              refine wpAny_done (by kernel_rfl) ?_ _
              have HW : Kp (hW B i ++ [x] = hW B (i + 1)) := ⟨by rw [hW_succ, HXE.out]⟩
              have S4 : Kp (RGSt w R I H hd (.slice (some ⟨g, 0, none⟩) (us.length + 1) capN) (hW B (i + 1)) M B (hS B (i + 1)).1 (hS B (i + 1)).2 (w3.setCell ⟨H, 1, none⟩ (.slice (some ⟨g, 0, none⟩) (us.length + 1) capN))) := ⟨by have := S3.out; rw [HUS.out, HW.out] at this; rw [HUS.out]; exact this⟩
              clear S3 H3
              go_wp2_with fail
              exact ⟨⟨i + 1, _, _, _, by omega, by go_num, S4.out⟩, by simp [intOf]; omega⟩
            · go_simp
              refine (num_any M I B (hS B i).1 (hS B i).2 4 _ S0.out.i.drew (by decide)).mono ?_
              rintro r w1 ⟨rfl, s1⟩
              rw [show numOf (rawP B (hS B i).1 (hS B i).2 4) = hX B i from rfl, ← HXE.out]
              have S1 := Kp.mk ((S0.out.drew).read s1)
              clear s1
              refine hK _ _ ?_
              clear hK K
              try simp only [Act.put, List.setIfInBounds_toArray, List.set_cons_zero, List.set_cons_succ]
              refine wpAny_take (i := 4) (oi := { dst := some 47, op := Go.Op.convert 23 98 (Go.Operand.tmp 46), type := 98, pos := "ref.go:219", after := #[{ on := 3, ground := Go.Ground.data }], guard := none }) (v := .int .u32 x) rfl (by kernel_rfl) (by kernel_rfl) (by kernel_rfl) (fun _ _ _ h => h) (Or.inl ⟨by rfl, fun w => by go_simp⟩) ?_
              simp only [Act.put, List.setIfInBounds_toArray, List.set_cons_zero, List.set_cons_succ]
              refine wpAny_ready (rs := [1, 5]) (by kernel_rfl) (by simp) ?_
              refine AllReady.cons (o := { dst := some 44, op := Go.Op.load 67 (Go.Operand.tmp 43), type := 67, pos := "ref.go:219", after := #[{ on := 0, ground := Go.Ground.data }], guard := none }) rfl (fun K hK => ?_) (AllReady.cons (o := { dst := some 48, op := Go.Op.buildSlice 67 1 #[(0, Go.Operand.tmp 47)], type := 67, pos := "ref.go:219", after := #[{ on := 4, ground := Go.Ground.data }], guard := none }) rfl (fun K hK => ?_) AllReady.nil)
              · have q2 : w1.cell? ⟨H, 1, none⟩ = some (.slice av nv cv) := S1.out.h.cell 1
                go_simp
                clear q2
                refine hK _ _ ?_
                clear hK K
                try simp only [Act.put, List.setIfInBounds_toArray, List.set_cons_zero, List.set_cons_succ]
                refine wpAny_ready (rs := [5]) (by kernel_rfl) (by simp) ?_
                refine AllReady.cons (o := { dst := some 48, op := Go.Op.buildSlice 67 1 #[(0, Go.Operand.tmp 47)], type := 67, pos := "ref.go:219", after := #[{ on := 4, ground := Go.Ground.data }], guard := none }) rfl (fun K hK => ?_) AllReady.nil
                go_simp
                refine hK _ _ ?_
                clear hK K
                try simp only [Act.put, List.setIfInBounds_toArray, List.set_cons_zero, List.set_cons_succ]
                refine wpAny_ready (rs := [6]) (by kernel_rfl) (by simp) ?_
                refine AllReady.cons (o := { dst := some 49, op := Go.Op.call { callee := Go.Callee.builtin Go.Builtin.append, args := #[Go.Operand.tmp 44, Go.Operand.tmp 48], argTypes := #[67, 67] }, type := 67, pos := "ref.go:219", after := #[{ on := 1, ground := Go.Ground.data }, { on := 5, ground := Go.Ground.data }, { on := 3, ground := Go.Ground.chain }], guard := none }) rfl (fun K hK => ?_) AllReady.nil
                refine step_append_lies _ rfl (.tmp 44) (.tmp 48) 67 rfl (H + 1) 98 i0 (.int .u32 0) 1 4 Tryd.underlying67 hi hz0 hz1 hz2 rfl (by decide) (.slice av nv cv) us.length (uv us) rfl (ownsRow_below S1.out.o (more (Below.refl _ _) _)) ⟨w1.heap.size, 0, none⟩ 1 1 [.int .u32 x] rfl rfl ?d0 ?d1 (by decide) ?d3 ?d4 ?d5 (w1.heap.size + 1) ?d6 ?_
                case d0 => exact World.news_of_block (Blk.new w1 (.cells #[.int .u32 x] 98))
                case d1 => intro u hu; simp only [List.mem_singleton] at hu; rw [hu]; rfl
                case d3 => have := HUL.out; unfold maxLen; omega
                case d4 => have := HUL.out; omega
                case d5 => have := S1.out.h.lt; simp; omega
                case d6 => simp
                intro g capN w3 ho hg hv hlt
                have H3 : Kp (Blk w3 H (.cells #[.int .u8 hd, .slice av nv cv] 69)) := ⟨S1.out.h.upto (below_row_grown (B := H + 1) ((more (Below.refl _ _) _).mono (by have := S1.out.h.lt; omega)) (by have := S1.out.h.lt; simp; omega) (ownsRow_below S1.out.o (more (Below.refl _ _) _)) hg) (by omega)⟩
                have S3 := Kp.mk (S1.out.app HX.out ho hg)
                clear ho hg hv hlt S1
                refine hK _ _ ?_
                clear hK K
                try simp only [Act.put, List.setIfInBounds_toArray, List.set_cons_zero, List.set_cons_succ]
                refine wpAny_take (i := 7) (oi := { dst := some 50, op := Go.Op.fieldAddr 69 (Go.Operand.tmp 5) 1, type := 0, pos := "ref.go:219", after := #[{ on := 0, ground := Go.Ground.phase }, { on := 1, ground := Go.Ground.phase }, { on := 2, ground := Go.Ground.phase }, { on := 3, ground := Go.Ground.phase }, { on := 4, ground := Go.Ground.phase }, { on := 5, ground := Go.Ground.phase }, { on := 6, ground := Go.Ground.phase }], guard := none }) (v := .pointer (some ⟨H, 1, none⟩)) rfl (by kernel_rfl) (by kernel_rfl) (by kernel_rfl) (fun _ _ _ h => h) (Or.inl ⟨by rfl, fun w => by first | rfl | go_simp⟩) ?_
                simp only [Act.put, List.setIfInBounds_toArray, List.set_cons_zero, List.set_cons_succ]
                refine wpAny_ready (rs := [8]) (by kernel_rfl) (by simp) ?_
                refine AllReady.cons (o := { dst := none, op := Go.Op.store 67 (Go.Operand.tmp 50) (Go.Operand.tmp 49), type := 0, pos := "ref.go:219", after := #[{ on := 7, ground := Go.Ground.data }, { on := 6, ground := Go.Ground.data }, { on := 6, ground := Go.Ground.chain }, { on := 0, ground := Go.Ground.phase }, { on := 1, ground := Go.Ground.phase }, { on := 2, ground := Go.Ground.phase }, { on := 3, ground := Go.Ground.phase }, { on := 4, ground := Go.Ground.phase }, { on := 5, ground := Go.Ground.phase }, { on := 6, ground := Go.Ground.phase }], guard := none }) rfl (fun K hK => ?_) AllReady.nil
                have q2 := H3.out.cell 1
                have q3 := H3.out.frozen 1
                go_simp
                clear q2 q3
                refine hK _ _ ?_
                clear hK K
                try simp only [Act.put, List.setIfInBounds_toArray, List.set_cons_zero, List.set_cons_succ]
                refine wpAny_done (by kernel_rfl) ?_ _
                have HW : Kp (hW B i ++ [x] = hW B (i + 1)) := ⟨by rw [hW_succ, HXE.out]⟩
                have S4 : Kp (RGSt w R I H hd (.slice (some ⟨g, 0, none⟩) (us.length + 1) capN) (hW B (i + 1)) M B (hS B (i + 1)).1 (hS B (i + 1)).2 (w3.setCell ⟨H, 1, none⟩ (.slice (some ⟨g, 0, none⟩) (us.length + 1) capN))) := ⟨by have := S3.out; rw [HUS.out, HW.out] at this; rw [HUS.out]; exact this⟩
                clear S3 H3
                go_wp2_with fail
                exact ⟨⟨i + 1, _, _, _, by omega, by go_num, S4.out⟩, by simp [intOf]; omega⟩
              · go_simp
                refine hK _ _ ?_
                clear hK K
                try simp only [Act.put, List.setIfInBounds_toArray, List.set_cons_zero, List.set_cons_succ]
                refine wpAny_ready (rs := [1]) (by kernel_rfl) (by simp) ?_
                refine AllReady.cons (o := { dst := some 44, op := Go.Op.load 67 (Go.Operand.tmp 43), type := 67, pos := "ref.go:219", after := #[{ on := 0, ground := Go.Ground.data }], guard := none }) rfl (fun K hK => ?_) AllReady.nil
                have q2 : (w1.alloc (.cells #[.int .u32 x] 98)).cell? ⟨H, 1, none⟩ = some (.slice av nv cv) := (S1.out.h.old _).cell 1
                go_simp
                clear q2
                refine hK _ _ ?_
                clear hK K
                try simp only [Act.put, List.setIfInBounds_toArray, List.set_cons_zero, List.set_cons_succ]
                refine wpAny_ready (rs := [6]) (by kernel_rfl) (by simp) ?_
                refine AllReady.cons (o := { dst := some 49, op := Go.Op.call { callee := Go.Callee.builtin Go.Builtin.append, args := #[Go.Operand.tmp 44, Go.Operand.tmp 48], argTypes := #[67, 67] }, type := 67, pos := "ref.go:219", after := #[{ on := 1, ground := Go.Ground.data }, { on := 5, ground := Go.Ground.data }, { on := 3, ground := Go.Ground.chain }], guard := none }) rfl (fun K hK => ?_) AllReady.nil
                refine step_append_lies _ rfl (.tmp 44) (.tmp 48) 67 rfl (H + 1) 98 i0 (.int .u32 0) 1 4 Tryd.underlying67 hi hz0 hz1 hz2 rfl (by decide) (.slice av nv cv) us.length (uv us) rfl (ownsRow_below S1.out.o (more (Below.refl _ _) _)) ⟨w1.heap.size, 0, none⟩ 1 1 [.int .u32 x] rfl rfl ?d0 ?d1 (by decide) ?d3 ?d4 ?d5 (w1.heap.size + 1) ?d6 ?_
                case d0 => exact World.news_of_block (Blk.new w1 (.cells #[.int .u32 x] 98))
                case d1 => intro u hu; simp only [List.mem_singleton] at hu; rw [hu]; rfl
                case d3 => have := HUL.out; unfold maxLen; omega
                case d4 => have := HUL.out; omega
                case d5 => have := S1.out.h.lt; simp; omega
                case d6 => simp
                intro g capN w3 ho hg hv hlt
                have H3 : Kp (Blk w3 H (.cells #[.int .u8 hd, .slice av nv cv] 69)) := ⟨S1.out.h.upto (below_row_grown (B := H + 1) ((more (Below.refl _ _) _).mono (by have := S1.out.h.lt; omega)) (by have := S1.out.h.lt; simp; omega) (ownsRow_below S1.out.o (more (Below.refl _ _) _)) hg) (by omega)⟩
                have S3 := Kp.mk (S1.out.app HX.out ho hg)
                clear ho hg hv hlt S1
                refine hK _ _ ?_
                clear hK K
                try simp only [Act.put, List.setIfInBounds_toArray, List.set_cons_zero, List.set_cons_succ]
                refine wpAny_take (i := 7) (oi := { dst := some 50, op := Go.Op.fieldAddr 69 (Go.Operand.tmp 5) 1, type := 0, pos := "ref.go:219", after := #[{ on := 0, ground := Go.Ground.phase }, { on := 1, ground := Go.Ground.phase }, { on := 2, ground := Go.Ground.phase }, { on := 3, ground := Go.Ground.phase }, { on := 4, ground := Go.Ground.phase }, { on := 5, ground := Go.Ground.phase }, { on := 6, ground := Go.Ground.phase }], guard := none }) (v := .pointer (some ⟨H, 1, none⟩)) rfl (by kernel_rfl) (by kernel_rfl) (by kernel_rfl) (fun _ _ _ h => h) (Or.inl ⟨by rfl, fun w => by first | rfl | go_simp⟩) ?_
                simp only [Act.put, List.setIfInBounds_toArray, List.set_cons_zero, List.set_cons_succ]
                refine wpAny_ready (rs := [8]) (by kernel_rfl) (by simp) ?_
                refine AllReady.cons (o := { dst := none, op := Go.Op.store 67 (Go.Operand.tmp 50) (Go.Operand.tmp 49), type := 0, pos := "ref.go:219", after := #[{ on := 7, ground := Go.Ground.data }, { on := 6, ground := Go.Ground.data }, { on := 6, ground := Go.Ground.chain }, { on := 0, ground := Go.Ground.phase }, { on := 1, ground := Go.Ground.phase }, { on := 2, ground := Go.Ground.phase }, { on := 3, ground := Go.Ground.phase }, { on := 4, ground := Go.Ground.phase }, { on := 5, ground := Go.Ground.phase }, { on := 6, ground := Go.Ground.phase }], guard := none }) rfl (fun K hK => ?_) AllReady.nil
                have q2 := H3.out.cell 1
                have q3 := H3.out.frozen 1
                go_simp
                clear q2 q3
                refine hK _ _ ?_
                clear hK K
                try simp only [Act.put, List.setIfInBounds_toArray, List.set_cons_zero, List.set_cons_succ]
                refine wpAny_done (by kernel_rfl) ?_ _
                have HW : Kp (hW B i ++ [x] = hW B (i + 1)) := ⟨by rw [hW_succ, HXE.out]⟩
                have S4 : Kp (RGSt w R I H hd (.slice (some ⟨g, 0, none⟩) (us.length + 1) capN) (hW B (i + 1)) M B (hS B (i + 1)).1 (hS B (i + 1)).2 (w3.setCell ⟨H, 1, none⟩ (.slice (some ⟨g, 0, none⟩) (us.length + 1) capN))) := ⟨by have := S3.out; rw [HUS.out, HW.out] at this; rw [HUS.out]; exact this⟩
                clear S3 H3
                go_wp2_with fail
                exact ⟨⟨i + 1, _, _, _, by omega, by go_num, S4.out⟩, by simp [intOf]; omega⟩
          · obtain rfl : i = k := by omega
            have hin : ¬ (i : Int) < n := by omega
            clear hNk
            have HSK : Kp (hS B (gK B) = hS B i) := ⟨by rw [HKE.out]⟩
            have HIK : Kp (hW B i = hW B (gK B)) := ⟨by rw [HKE.out]⟩
            clear he
            go_wp2_with fail
            clear c2 hek
            refine (rend_any M I B _ _ wr S0.out.i).mono ?_
            rintro r w5 ⟨rfl, o5, h5⟩
            rw [← HSK.out, show (if 0 < rleft B (hS B (gK B)).1 (hS B (gK B)).2 then 10 else (hS B (gK B)).2) = gEnd B from rfl]
            have S5 : Kp (Blk w5 R (HZ 69) ∧ Blk w5 H (.cells #[.int .u8 hd, .slice av nv cv] 69) ∧ w5.ownsRow (H + 1) 98 1 (.slice av nv cv) (hW B i).length (uv (hW B i)) ∧ Below R w w5 ∧ R < H) := ⟨h5.keep S0.out.r (by have := S0.out.ri; omega), h5.keep S0.out.h (by have := S0.out.ih; omega), ownsRow_turn S0.out.o h5 (by have := S0.out.ih; omega), S0.out.below.trans (h5.below (by have := S0.out.ri; omega) (by have := S0.out.r.lt; omega)), by have := S0.out.ri; have := S0.out.ih; omega⟩
            have HU5 := Kp.mk S0.out.u
            clear h5 S0
            by_cases hg : gEnd B = 0
            · have HGE := Kp.mk hg
              rw [hg]
              clear hg
              go_wp2_with (first
                | (refine wpList_load_row rfl 69 (.tmp 5) rfl H rfl 69 #[.int .u8 hd, .slice av nv cv] (0, 0) _ S5.out.2.1 Tryd.underlying69 rfl info69s ?_)
                | (refine wpList_store_row rfl 69 (.tmp 2) (.tmp 57) rfl R #[.int .u8 hd, .slice av nv cv] rfl rfl 69 _ S5.out.1 info69s rfl (h_one _ _ _ _) ?_; refine wpl_world (w := w5.setRow R #[.int .u8 hd, .slice av nv cv]) (fun W => Blk W R (.cells #[.int .u8 hd, .slice av nv cv] 69) ∧ HoldsU W W.heap.size (.slice av nv cv) (hW B i) ∧ Below R w W) ⟨(Turn.ofRow S5.out.1 _).blk, HoldsU.ofRow HU5.out (ownsRow_turn S5.out.2.2.1 (Turn.ofRow S5.out.1 _) (by have := S5.out.2.2.2.2; omega)), S5.out.2.2.2.1.trans ((Turn.ofRow S5.out.1 _).below (Nat.le_refl _) (by have := S5.out.1.lt; omega))⟩ ?_; rintro W6 h6; have S6 := Kp.mk h6; clear h6))
              exact bodyPost_ret (results_row_tmp' rfl _ _ R 69 _ _ _ (.int .i64 0) rfl rfl S6.out.1 Tryd.underlying69 rfl info69s) rfl ⟨av, nv, cv, by unfold gX; rw [if_pos HGE.out, HGE.out, ← HHD.out], by unfold gW; rw [if_pos HGE.out, ← HIK.out]; exact S6.out.2.1, by rw [← HRe.out]; exact S6.out.2.2⟩
            · have HGE := Kp.mk hg
              have hne : (gEnd B != 0) = true := by simpa using hg
              obtain ⟨E, hE⟩ : ∃ E, E = gEnd B := ⟨_, rfl⟩
              have HE := Kp.mk hE
              rw [← hE] at hne ⊢
              clear hg hE
              go_wp2_with (refine wpList_store_row rfl 69 (.tmp 2) (.tmp 55) rfl R #[.int .u8 0, .slice none 0 0] rfl rfl 69 _ S5.out.1 info69s rfl (h_one _ _ _ _) ?_; refine wpl_world (w := w5.setRow R #[.int .u8 0, .slice none 0 0]) (fun W => Blk W R (HZ 69) ∧ Below R w W) ⟨(Turn.ofRow S5.out.1 _).blk, S5.out.2.2.2.1.trans ((Turn.ofRow S5.out.1 _).below (Nat.le_refl _) (by have := S5.out.1.lt; omega))⟩ ?_; rintro W6 h6; have S6 := Kp.mk h6; clear h6)
              exact bodyPost_ret (results_row_tmp' rfl _ _ R 69 _ _ _ (.int .i64 E) rfl rfl S6.out.1 Tryd.underlying69 rfl info69s) rfl ⟨none, 0, 0, by unfold gX; rw [if_neg HGE.out, HE.out], by unfold gW; rw [if_neg HGE.out]; exact HoldsU.nil _ _, by rw [← HRe.out]; exact S6.out.2⟩
        · by_cases hin : (i : Int) < n
          · have HSK : Kp (hS B (gK B) = hS B i) := ⟨by have := hS_stay (i := i) he (gK B - i); rw [show i + (gK B - i) = gK B by have := HKE.out; omega] at this; exact this⟩
            have hg : gEnd B ≠ 0 := by
              unfold gEnd
              rw [HSK.out]
              have : rleft B (hS B i).1 (hS B i).2 = 0 := by unfold rleft; rw [if_neg he]
              rw [this, if_neg (by omega)]
              exact he
            have hek : ((hS B i).2 == 0) = false := by simpa using he
            go_wp2_with fail
            clear c2 hek he
            refine (rend_any M I B _ _ wr S0.out.i).mono ?_
            rintro r w5 ⟨rfl, o5, h5⟩
            rw [← HSK.out, show (if 0 < rleft B (hS B (gK B)).1 (hS B (gK B)).2 then 10 else (hS B (gK B)).2) = gEnd B from rfl]
            have S5 : Kp (Blk w5 R (HZ 69) ∧ Blk w5 H (.cells #[.int .u8 hd, .slice av nv cv] 69) ∧ w5.ownsRow (H + 1) 98 1 (.slice av nv cv) (hW B i).length (uv (hW B i)) ∧ Below R w w5 ∧ R < H) := ⟨h5.keep S0.out.r (by have := S0.out.ri; omega), h5.keep S0.out.h (by have := S0.out.ih; omega), ownsRow_turn S0.out.o h5 (by have := S0.out.ih; omega), S0.out.below.trans (h5.below (by have := S0.out.ri; omega) (by have := S0.out.r.lt; omega)), by have := S0.out.ri; have := S0.out.ih; omega⟩
            have HU5 := Kp.mk S0.out.u
            clear h5 S0
            have HGE := Kp.mk hg
            have hne : (gEnd B != 0) = true := by simpa using hg
            obtain ⟨E, hE⟩ : ∃ E, E = gEnd B := ⟨_, rfl⟩
            have HE := Kp.mk hE
            rw [← hE] at hne ⊢
            clear hg hE
            go_wp2_with (refine wpList_store_row rfl 69 (.tmp 2) (.tmp 55) rfl R #[.int .u8 0, .slice none 0 0] rfl rfl 69 _ S5.out.1 info69s rfl (h_one _ _ _ _) ?_; refine wpl_world (w := w5.setRow R #[.int .u8 0, .slice none 0 0]) (fun W => Blk W R (HZ 69) ∧ Below R w W) ⟨(Turn.ofRow S5.out.1 _).blk, S5.out.2.2.2.1.trans ((Turn.ofRow S5.out.1 _).below (Nat.le_refl _) (by have := S5.out.1.lt; omega))⟩ ?_; rintro W6 h6; have S6 := Kp.mk h6; clear h6)
            exact bodyPost_ret (results_row_tmp' rfl _ _ R 69 _ _ _ (.int .i64 E) rfl rfl S6.out.1 Tryd.underlying69 rfl info69s) rfl ⟨none, 0, 0, by unfold gX; rw [if_neg HGE.out, HE.out], by unfold gW; rw [if_neg HGE.out]; exact HoldsU.nil _ _, by rw [← HRe.out]; exact S6.out.2⟩
          · have HSK : Kp (hS B (gK B) = hS B i) := ⟨by have := hS_stay (i := i) he (gK B - i); rw [show i + (gK B - i) = gK B by have := HKE.out; omega] at this; exact this⟩
            have hg : gEnd B ≠ 0 := by
              unfold gEnd
              rw [HSK.out]
              have : rleft B (hS B i).1 (hS B i).2 = 0 := by unfold rleft; rw [if_neg he]
              rw [this, if_neg (by omega)]
              exact he
            have hek : ((hS B i).2 == 0) = false := by simpa using he
            go_wp2_with fail
            clear c2 hek he
            refine (rend_any M I B _ _ wr S0.out.i).mono ?_
            rintro r w5 ⟨rfl, o5, h5⟩
            rw [← HSK.out, show (if 0 < rleft B (hS B (gK B)).1 (hS B (gK B)).2 then 10 else (hS B (gK B)).2) = gEnd B from rfl]
            have S5 : Kp (Blk w5 R (HZ 69) ∧ Blk w5 H (.cells #[.int .u8 hd, .slice av nv cv] 69) ∧ w5.ownsRow (H + 1) 98 1 (.slice av nv cv) (hW B i).length (uv (hW B i)) ∧ Below R w w5 ∧ R < H) := ⟨h5.keep S0.out.r (by have := S0.out.ri; omega), h5.keep S0.out.h (by have := S0.out.ih; omega), ownsRow_turn S0.out.o h5 (by have := S0.out.ih; omega), S0.out.below.trans (h5.below (by have := S0.out.ri; omega) (by have := S0.out.r.lt; omega)), by have := S0.out.ri; have := S0.out.ih; omega⟩
            have HU5 := Kp.mk S0.out.u
            clear h5 S0
            have HGE := Kp.mk hg
            have hne : (gEnd B != 0) = true := by simpa using hg
            obtain ⟨E, hE⟩ : ∃ E, E = gEnd B := ⟨_, rfl⟩
            have HE := Kp.mk hE
            rw [← hE] at hne ⊢
            clear hg hE
            go_wp2_with (refine wpList_store_row rfl 69 (.tmp 2) (.tmp 55) rfl R #[.int .u8 0, .slice none 0 0] rfl rfl 69 _ S5.out.1 info69s rfl (h_one _ _ _ _) ?_; refine wpl_world (w := w5.setRow R #[.int .u8 0, .slice none 0 0]) (fun W => Blk W R (HZ 69) ∧ Below R w W) ⟨(Turn.ofRow S5.out.1 _).blk, S5.out.2.2.2.1.trans ((Turn.ofRow S5.out.1 _).below (Nat.le_refl _) (by have := S5.out.1.lt; omega))⟩ ?_; rintro W6 h6; have S6 := Kp.mk h6; clear h6)
            exact bodyPost_ret (results_row_tmp' rfl _ _ R 69 _ _ _ (.int .i64 E) rfl rfl S6.out.1 Tryd.underlying69 rfl info69s) rfl ⟨none, 0, 0, by unfold gX; rw [if_neg HGE.out, HE.out], by unfold gW; rw [if_neg HGE.out]; exact HoldsU.nil _ _, by rw [← HRe.out]; exact S6.out.2⟩
    · have hzb : (e2 == 0) = false := by simpa using hz
      clear hz
      go_wp2_with fail
      clear c2 f2 hzb
      go_loopw [7] (fun ct wr => ∃ (i : Nat) (av : Option Addr) (nv cv : Nat), i ≤ k ∧ ct = .int .i64 i ∧ RGSt w R I H hd (.slice av nv cv) (hW B i) M B (hS B i).1 (hS B i).2 wr) (fun ct _ => k - (intOf ct).toNat)
      case atStart => exact ⟨0, none, 0, 0, by omega, rfl, S3.out⟩
      case round =>
        obtain ⟨i, av, nv, cv, hi', rfl, hst⟩ := hrel
        have S0 := Kp.mk hst
        clear hst
        have c2 : wr.cell? ⟨I, 2, none⟩ = some (.int .i64 (hS B i).2) := by
          obtain ⟨_, ⟨u, _, hb⟩, _⟩ := S0.out.i
          exact hb.cell 2
        by_cases he : (hS B i).2 = 0
        · have hNk : n = (k : Int) := HNK.out i hi' he
          have hek : ((hS B i).2 == 0) = true := by simpa using he
          by_cases hlt : i < k
          · have hin : (i : Int) < n := by omega
            clear hNk
            obtain ⟨x, hxe⟩ : ∃ x, x = hX B i := ⟨_, rfl⟩
            have HX : Kp (0 ≤ x ∧ x ≤ 4294967295) := ⟨by rw [hxe]; exact hX_lt HBB.out i⟩
            have HXE := Kp.mk hxe
            have hwx : IntKind.u32.wrap x = x := by have := HX.out; simp [IntKind.wrap, IntKind.bits, IntKind.signed]; omega
            obtain ⟨us, hus⟩ : ∃ us, us = hW B i := ⟨_, rfl⟩
            have HUS := Kp.mk hus
            have HUL : Kp (us.length ≤ 8) := ⟨by rw [hus, hW_len]; omega⟩
            rw [← hus] at S0
            clear hxe hus
            clear he
            go_wp2_with fail
            clear c2 hek
            refine wp_region_any (by kernel_rfl) ?_
            change wpAny _ _ _ _ _ _ _ (World.drew _)
            refine wpAny_take (i := 0) (oi := { dst := some 43, op := Go.Op.fieldAddr 69 (Go.Operand.tmp 5) 1, type := 0, pos := "ref.go:219", after := #[], guard := none }) (v := .pointer (some ⟨H, 1, none⟩)) rfl (by kernel_rfl) (by kernel_rfl) (by kernel_rfl) (fun _ _ _ h => h) (Or.inl ⟨by rfl, fun w => by first | rfl | go_simp⟩) ?_
            simp only [Act.put, List.setIfInBounds_toArray, List.set_cons_zero, List.set_cons_succ]
            refine wpAny_take (i := 2) (oi := { dst := some 45, op := Go.Op.move (Go.Operand.tmp 4), type := 90, pos := "ref.go:219", after := #[], guard := none }) (v := .pointer (some ⟨I, 0, none⟩)) rfl (by kernel_rfl) (by kernel_rfl) (by kernel_rfl) (fun _ _ _ h => h) (Or.inl ⟨by rfl, fun w => by first | rfl | go_simp⟩) ?_
            simp only [Act.put, List.setIfInBounds_toArray, List.set_cons_zero, List.set_cons_succ]
            refine wpAny_ready (rs := [1, 3]) (by kernel_rfl) (by simp) ?_
            refine AllReady.cons (o := { dst := some 44, op := Go.Op.load 67 (Go.Operand.tmp 43), type := 67, pos := "ref.go:219", after := #[{ on := 0, ground := Go.Ground.data }], guard := none }) rfl (fun K hK => ?_) (AllReady.cons (o := { dst := some 46, op := Go.Op.call { callee := Go.Callee.value (Go.Operand.func 42), args := #[Go.Operand.tmp 45, Go.Operand.const (Go.Value.int Go.IntKind.i64 4)], argTypes := #[90, 3] }, type := 23, pos := "ref.go:219", after := #[{ on := 2, ground := Go.Ground.data }], guard := none }) rfl (fun K hK => ?_) AllReady.nil)
            · have q2 : wr.cell? ⟨H, 1, none⟩ = some (.slice av nv cv) := S0.out.h.cell 1
              go_simp
              clear q2
              refine hK _ _ ?_
              clear hK K
              try simp only [Act.put, List.setIfInBounds_toArray, List.set_cons_zero, List.set_cons_succ]
              refine wpAny_ready (rs := [3]) (by kernel_rfl) (by simp) ?_
              refine AllReady.cons (o := { dst := some 46, op := Go.Op.call { callee := Go.Callee.value (Go.Operand.func 42), args := #[Go.Operand.tmp 45, Go.Operand.const (Go.Value.int Go.IntKind.i64 4)], argTypes := #[90, 3] }, type := 23, pos := "ref.go:219", after := #[{ on := 2, ground := Go.Ground.data }], guard := none }) rfl (fun K hK => ?_) AllReady.nil
              go_simp
              refine (num_any M I B (hS B i).1 (hS B i).2 4 _ S0.out.i.drew (by decide)).mono ?_
              rintro r w1 ⟨rfl, s1⟩
              rw [show numOf (rawP B (hS B i).1 (hS B i).2 4) = hX B i from rfl, ← HXE.out]
              have S1 := Kp.mk ((S0.out.drew).read s1)
              clear s1
              refine hK _ _ ?_
              clear hK K
              try simp only [Act.put, List.setIfInBounds_toArray, List.set_cons_zero, List.set_cons_succ]
              refine wpAny_take (i := 4) (oi := { dst := some 47, op := Go.Op.convert 23 98 (Go.Operand.tmp 46), type := 98, pos := "ref.go:219", after := #[{ on := 3, ground := Go.Ground.data }], guard := none }) (v := .int .u32 x) rfl (by kernel_rfl) (by kernel_rfl) (by kernel_rfl) (fun _ _ _ h => h) (Or.inl ⟨by rfl, fun w => by go_simp⟩) ?_
              simp only [Act.put, List.setIfInBounds_toArray, List.set_cons_zero, List.set_cons_succ]
              refine wpAny_ready (rs := [5]) (by kernel_rfl) (by simp) ?_
              refine AllReady.cons (o := { dst := some 48, op := Go.Op.buildSlice 67 1 #[(0, Go.Operand.tmp 47)], type := 67, pos := "ref.go:219", after := #[{ on := 4, ground := Go.Ground.data }], guard := none }) rfl (fun K hK => ?_) AllReady.nil
              go_simp
              refine hK _ _ ?_
              clear hK K
              try simp only [Act.put, List.setIfInBounds_toArray, List.set_cons_zero, List.set_cons_succ]
              refine wpAny_ready (rs := [6]) (by kernel_rfl) (by simp) ?_
              refine AllReady.cons (o := { dst := some 49, op := Go.Op.call { callee := Go.Callee.builtin Go.Builtin.append, args := #[Go.Operand.tmp 44, Go.Operand.tmp 48], argTypes := #[67, 67] }, type := 67, pos := "ref.go:219", after := #[{ on := 1, ground := Go.Ground.data }, { on := 5, ground := Go.Ground.data }, { on := 3, ground := Go.Ground.chain }], guard := none }) rfl (fun K hK => ?_) AllReady.nil
              refine step_append_lies _ rfl (.tmp 44) (.tmp 48) 67 rfl (H + 1) 98 i0 (.int .u32 0) 1 4 Tryd.underlying67 hi hz0 hz1 hz2 rfl (by decide) (.slice av nv cv) us.length (uv us) rfl (ownsRow_below S1.out.o (more (Below.refl _ _) _)) ⟨w1.heap.size, 0, none⟩ 1 1 [.int .u32 x] rfl rfl ?d0 ?d1 (by decide) ?d3 ?d4 ?d5 (w1.heap.size + 1) ?d6 ?_
              case d0 => exact World.news_of_block (Blk.new w1 (.cells #[.int .u32 x] 98))
              case d1 => intro u hu; simp only [List.mem_singleton] at hu; rw [hu]; rfl
              case d3 => have := HUL.out; unfold maxLen; omega
              case d4 => have := HUL.out; omega
              case d5 => have := S1.out.h.lt; simp; omega
              case d6 => simp
              intro g capN w3 ho hg hv hlt
              have H3 : Kp (Blk w3 H (.cells #[.int .u8 hd, .slice av nv cv] 69)) := ⟨S1.out.h.upto (below_row_grown (B := H + 1) ((more (Below.refl _ _) _).mono (by have := S1.out.h.lt; omega)) (by have := S1.out.h.lt; simp; omega) (ownsRow_below S1.out.o (more (Below.refl _ _) _)) hg) (by omega)⟩
              have S3 := Kp.mk (S1.out.app HX.out ho hg)
              clear ho hg hv hlt S1
              refine hK _ _ ?_
              clear hK K
              try simp only [Act.put, List.setIfInBounds_toArray, List.set_cons_zero, List.set_cons_succ]
              refine wpAny_take (i := 7) (oi := { dst := some 50, op := Go.Op.fieldAddr 69 (Go.Operand.tmp 5) 1, type := 0, pos := "ref.go:219", after := #[{ on := 0, ground := Go.Ground.phase }, { on := 1, ground := Go.Ground.phase }, { on := 2, ground := Go.Ground.phase }, { on := 3, ground := Go.Ground.phase }, { on := 4, ground := Go.Ground.phase }, { on := 5, ground := Go.Ground.phase }, { on := 6, ground := Go.Ground.phase }], guard := none }) (v := .pointer (some ⟨H, 1, none⟩)) rfl (by kernel_rfl) (by kernel_rfl) (by kernel_rfl) (fun _ _ _ h => h) (Or.inl ⟨by rfl, fun w => by first | rfl | go_simp⟩) ?_
              simp only [Act.put, List.setIfInBounds_toArray, List.set_cons_zero, List.set_cons_succ]
              refine wpAny_ready (rs := [8]) (by kernel_rfl) (by simp) ?_
              refine AllReady.cons (o := { dst := none, op := Go.Op.store 67 (Go.Operand.tmp 50) (Go.Operand.tmp 49), type := 0, pos := "ref.go:219", after := #[{ on := 7, ground := Go.Ground.data }, { on := 6, ground := Go.Ground.data }, { on := 6, ground := Go.Ground.chain }, { on := 0, ground := Go.Ground.phase }, { on := 1, ground := Go.Ground.phase }, { on := 2, ground := Go.Ground.phase }, { on := 3, ground := Go.Ground.phase }, { on := 4, ground := Go.Ground.phase }, { on := 5, ground := Go.Ground.phase }, { on := 6, ground := Go.Ground.phase }], guard := none }) rfl (fun K hK => ?_) AllReady.nil
              have q2 := H3.out.cell 1
              have q3 := H3.out.frozen 1
              go_simp
              clear q2 q3
              refine hK _ _ ?_
              clear hK K
              try simp only [Act.put, List.setIfInBounds_toArray, List.set_cons_zero, List.set_cons_succ]
              refine wpAny_done (by kernel_rfl) ?_ _
              have HW : Kp (hW B i ++ [x] = hW B (i + 1)) := ⟨by rw [hW_succ, HXE.out]⟩
              have S4 : Kp (RGSt w R I H hd (.slice (some ⟨g, 0, none⟩) (us.length + 1) capN) (hW B (i + 1)) M B (hS B (i + 1)).1 (hS B (i + 1)).2 (w3.setCell ⟨H, 1, none⟩ (.slice (some ⟨g, 0, none⟩) (us.length + 1) capN))) := ⟨by have := S3.out; rw [HUS.out, HW.out] at this; rw [HUS.out]; exact this⟩
              clear S3 H3
              go_wp2_with fail
              exact ⟨⟨i + 1, _, _, _, by omega, by go_num, S4.out⟩, by simp [intOf]; omega⟩
            · go_simp
              refine (num_any M I B (hS B i).1 (hS B i).2 4 _ S0.out.i.drew (by decide)).mono ?_
              rintro r w1 ⟨rfl, s1⟩
              rw [show numOf (rawP B (hS B i).1 (hS B i).2 4) = hX B i from rfl, ← HXE.out]
              have S1 := Kp.mk ((S0.out.drew).read s1)
              clear s1
              refine hK _ _ ?_
              clear hK K
              try simp only [Act.put, List.setIfInBounds_toArray, List.set_cons_zero, List.set_cons_succ]
              refine wpAny_take (i := 4) (oi := { dst := some 47, op := Go.Op.convert 23 98 (Go.Operand.tmp 46), type := 98, pos := "ref.go:219", after := #[{ on := 3, ground := Go.Ground.data }], guard := none }) (v := .int .u32 x) rfl (by kernel_rfl) (by kernel_rfl) (by kernel_rfl) (fun _ _ _ h => h) (Or.inl ⟨by rfl, fun w => by go_simp⟩) ?_
              simp only [Act.put, List.setIfInBounds_toArray, List.set_cons_zero, List.set_cons_succ]
              refine wpAny_ready (rs := [1, 5]) (by kernel_rfl) (by simp) ?_
              refine AllReady.cons (o := { dst := some 44, op := Go.Op.load 67 (Go.Operand.tmp 43), type := 67, pos := "ref.go:219", after := #[{ on := 0, ground := Go.Ground.data }], guard := none }) rfl (fun K hK => ?_) (AllReady.cons (o := { dst := some 48, op := Go.Op.buildSlice 67 1 #[(0, Go.Operand.tmp 47)], type := 67, pos := "ref.go:219", after := #[{ on := 4, ground := Go.Ground.data }], guard := none }) rfl (fun K hK => ?_) AllReady.nil)
              · have q2 : w1.cell? ⟨H, 1, none⟩ = some (.slice av nv cv) := S1.out.h.cell 1
                go_simp
                clear q2
                refine hK _ _ ?_
                clear hK K
                try simp only [Act.put, List.setIfInBounds_toArray, List.set_cons_zero, List.set_cons_succ]
                refine wpAny_ready (rs := [5]) (by kernel_rfl) (by simp) ?_
                refine AllReady.cons (o := { dst := some 48, op := Go.Op.buildSlice 67 1 #[(0, Go.Operand.tmp 47)], type := 67, pos := "ref.go:219", after := #[{ on := 4, ground := Go.Ground.data }], guard := none }) rfl (fun K hK => ?_) AllReady.nil
                go_simp
                refine hK _ _ ?_
                clear hK K
                try simp only [Act.put, List.setIfInBounds_toArray, List.set_cons_zero, List.set_cons_succ]
                refine wpAny_ready (rs := [6]) (by kernel_rfl) (by simp) ?_
                refine AllReady.cons (o := { dst := some 49, op := Go.Op.call { callee := Go.Callee.builtin Go.Builtin.append, args := #[Go.Operand.tmp 44, Go.Operand.tmp 48], argTypes := #[67, 67] }, type := 67, pos := "ref.go:219", after := #[{ on := 1, ground := Go.Ground.data }, { on := 5, ground := Go.Ground.data }, { on := 3, ground := Go.Ground.chain }], guard := none }) rfl (fun K hK => ?_) AllReady.nil
                refine step_append_lies _ rfl (.tmp 44) (.tmp 48) 67 rfl (H + 1) 98 i0 (.int .u32 0) 1 4 Tryd.underlying67 hi hz0 hz1 hz2 rfl (by decide) (.slice av nv cv) us.length (uv us) rfl (ownsRow_below S1.out.o (more (Below.refl _ _) _)) ⟨w1.heap.size, 0, none⟩ 1 1 [.int .u32 x] rfl rfl ?d0 ?d1 (by decide) ?d3 ?d4 ?d5 (w1.heap.size + 1) ?d6 ?_
                case d0 => exact World.news_of_block (Blk.new w1 (.cells #[.int .u32 x] 98))
                case d1 => intro u hu; simp only [List.mem_singleton] at hu; rw [hu]; rfl
                case d3 => have := HUL.out; unfold maxLen; omega
                case d4 => have := HUL.out; omega
                case d5 => have := S1.out.h.lt; simp; omega
                case d6 => simp
                intro g capN w3 ho hg hv hlt
                have H3 : Kp (Blk w3 H (.cells #[.int .u8 hd, .slice av nv cv] 69)) := ⟨S1.out.h.upto (below_row_grown (B := H + 1) ((more (Below.refl _ _) _).mono (by have := S1.out.h.lt; omega)) (by have := S1.out.h.lt; simp; omega) (ownsRow_below S1.out.o (more (Below.refl _ _) _)) hg) (by omega)⟩
                have S3 := Kp.mk (S1.out.app HX.out ho hg)
                clear ho hg hv hlt S1
                refine hK _ _ ?_
                clear hK K
                try simp only [Act.put, List.setIfInBounds_toArray, List.set_cons_zero, List.set_cons_succ]
                refine wpAny_take (i := 7) (oi := { dst := some 50, op := Go.Op.fieldAddr 69 (Go.Operand.tmp 5) 1, type := 0, pos := "ref.go:219", after := #[{ on := 0, ground := Go.Ground.phase }, { on := 1, ground := Go.Ground.phase }, { on := 2, ground := Go.Ground.phase }, { on := 3, ground := Go.Ground.phase }, { on := 4, ground := Go.Ground.phase }, { on := 5, ground := Go.Ground.phase }, { on := 6, ground := Go.Ground.phase }], guard := none }) (v := .pointer (some ⟨H, 1, none⟩)) rfl (by kernel_rfl) (by kernel_rfl) (by kernel_rfl) (fun _ _ _ h => h) (Or.inl ⟨by rfl, fun w => by first | rfl | go_simp⟩) ?_
                simp only [Act.put, List.setIfInBounds_toArray, List.set_cons_zero, List.set_cons_succ]
                refine wpAny_ready (rs := [8]) (by kernel_rfl) (by simp) ?_
                refine AllReady.cons (o := { dst := none, op := Go.Op.store 67 (Go.Operand.tmp 50) (Go.Operand.tmp 49), type := 0, pos := "ref.go:219", after := #[{ on := 7, ground := Go.Ground.data }, { on := 6, ground := Go.Ground.data }, { on := 6, ground := Go.Ground.chain }, { on := 0, ground := Go.Ground.phase }, { on := 1, ground := Go.Ground.phase }, { on := 2, ground := Go.Ground.phase }, { on := 3, ground := Go.Ground.phase }, { on := 4, ground := Go.Ground.phase }, { on := 5, ground := Go.Ground.phase }, { on := 6, ground := Go.Ground.phase }], guard := none }) rfl (fun K hK => ?_) AllReady.nil
                have q2 := H3.out.cell 1
                have q3 := H3.out.frozen 1
                go_simp
                clear q2 q3
                refine hK _ _ ?_
                clear hK K
                try simp only [Act.put, List.setIfInBounds_toArray, List.set_cons_zero, List.set_cons_succ]
                refine wpAny_done (by kernel_rfl) ?_ _
                have HW : Kp (hW B i ++ [x] = hW B (i + 1)) := ⟨by rw [hW_succ, HXE.out]⟩
                have S4 : Kp (RGSt w R I H hd (.slice (some ⟨g, 0, none⟩) (us.length + 1) capN) (hW B (i + 1)) M B (hS B (i + 1)).1 (hS B (i + 1)).2 (w3.setCell ⟨H, 1, none⟩ (.slice (some ⟨g, 0, none⟩) (us.length + 1) capN))) := ⟨by have := S3.out; rw [HUS.out, HW.out] at this; rw [HUS.out]; exact this⟩
                clear S3 H3
                go_wp2_with fail
                exact ⟨⟨i + 1, _, _, _, by omega, by go_num, S4.out⟩, by simp [intOf]; omega⟩
              · go_simp
                refine hK _ _ ?_
                clear hK K
                try simp only [Act.put, List.setIfInBounds_toArray, List.set_cons_zero, List.set_cons_succ]
                refine wpAny_ready (rs := [1]) (by kernel_rfl) (by simp) ?_
                refine AllReady.cons (o := { dst := some 44, op := Go.Op.load 67 (Go.Operand.tmp 43), type := 67, pos := "ref.go:219", after := #[{ on := 0, ground := Go.Ground.data }], guard := none }) rfl (fun K hK => ?_) AllReady.nil
                have q2 : (w1.alloc (.cells #[.int .u32 x] 98)).cell? ⟨H, 1, none⟩ = some (.slice av nv cv) := (S1.out.h.old _).cell 1
                go_simp
                clear q2
                refine hK _ _ ?_
                clear hK K
                try simp only [Act.put, List.setIfInBounds_toArray, List.set_cons_zero, List.set_cons_succ]
                refine wpAny_ready (rs := [6]) (by kernel_rfl) (by simp) ?_
                refine AllReady.cons (o := { dst := some 49, op := Go.Op.call { callee := Go.Callee.builtin Go.Builtin.append, args := #[Go.Operand.tmp 44, Go.Operand.tmp 48], argTypes := #[67, 67] }, type := 67, pos := "ref.go:219", after := #[{ on := 1, ground := Go.Ground.data }, { on := 5, ground := Go.Ground.data }, { on := 3, ground := Go.Ground.chain }], guard := none }) rfl (fun K hK => ?_) AllReady.nil
                refine step_append_lies _ rfl (.tmp 44) (.tmp 48) 67 rfl (H + 1) 98 i0 (.int .u32 0) 1 4 Tryd.underlying67 hi hz0 hz1 hz2 rfl (by decide) (.slice av nv cv) us.length (uv us) rfl (ownsRow_below S1.out.o (more (Below.refl _ _) _)) ⟨w1.heap.size, 0, none⟩ 1 1 [.int .u32 x] rfl rfl ?d0 ?d1 (by decide) ?d3 ?d4 ?d5 (w1.heap.size + 1) ?d6 ?_
                case d0 => exact World.news_of_block (Blk.new w1 (.cells #[.int .u32 x] 98))
                case d1 => intro u hu; simp only [List.mem_singleton] at hu; rw [hu]; rfl
                case d3 => have := HUL.out; unfold maxLen; omega
                case d4 => have := HUL.out; omega
                case d5 => have := S1.out.h.lt; simp; omega
                case d6 => simp
                intro g capN w3 ho hg hv hlt
                have H3 : Kp (Blk w3 H (.cells #[.int .u8 hd, .slice av nv cv] 69)) := ⟨S1.out.h.upto (below_row_grown (B := H + 1) ((more (Below.refl _ _) _).mono (by have := S1.out.h.lt; omega)) (by have := S1.out.h.lt; simp; omega) (ownsRow_below S1.out.o (more (Below.refl _ _) _)) hg) (by omega)⟩
                have S3 := Kp.mk (S1.out.app HX.out ho hg)
                clear ho hg hv hlt S1
                refine hK _ _ ?_
                clear hK K
                try simp only [Act.put, List.setIfInBounds_toArray, List.set_cons_zero, List.set_cons_succ]
                refine wpAny_take (i := 7) (oi := { dst := some 50, op := Go.Op.fieldAddr 69 (Go.Operand.tmp 5) 1, type := 0, pos := "ref.go:219", after := #[{ on := 0, ground := Go.Ground.phase }, { on := 1, ground := Go.Ground.phase }, { on := 2, ground := Go.Ground.phase }, { on := 3, ground := Go.Ground.phase }, { on := 4, ground := Go.Ground.phase }, { on := 5, ground := Go.Ground.phase }, { on := 6, ground := Go.Ground.phase }], guard := none }) (v := .pointer (some ⟨H, 1, none⟩)) rfl (by kernel_rfl) (by kernel_rfl) (by kernel_rfl) (fun _ _ _ h => h) (Or.inl ⟨by rfl, fun w => by first | rfl | go_simp⟩) ?_
                simp only [Act.put, List.setIfInBounds_toArray, List.set_cons_zero, List.set_cons_succ]
                refine wpAny_ready (rs := [8]) (by kernel_rfl) (by simp) ?_
                refine AllReady.cons (o := { dst := none, op := Go.Op.store 67 (Go.Operand.tmp 50) (Go.Operand.tmp 49), type := 0, pos := "ref.go:219", after := #[{ on := 7, ground := Go.Ground.data }, { on := 6, ground := Go.Ground.data }, { on := 6, ground := Go.Ground.chain }, { on := 0, ground := Go.Ground.phase }, { on := 1, ground := Go.Ground.phase }, { on := 2, ground := Go.Ground.phase }, { on := 3, ground := Go.Ground.phase }, { on := 4, ground := Go.Ground.phase }, { on := 5, ground := Go.Ground.phase }, { on := 6, ground := Go.Ground.phase }], guard := none }) rfl (fun K hK => ?_) AllReady.nil
                have q2 := H3.out.cell 1
                have q3 := H3.out.frozen 1
                go_simp
                clear q2 q3
                refine hK _ _ ?_
                clear hK K
                try simp only [Act.put, List.setIfInBounds_toArray, List.set_cons_zero, List.set_cons_succ]
                refine wpAny_done (by kernel_rfl) ?_ _
                have HW : Kp (hW B i ++ [x] = hW B (i + 1)) := ⟨by rw [hW_succ, HXE.out]⟩
                have S4 : Kp (RGSt w R I H hd (.slice (some ⟨g, 0, none⟩) (us.length + 1) capN) (hW B (i + 1)) M B (hS B (i + 1)).1 (hS B (i + 1)).2 (w3.setCell ⟨H, 1, none⟩ (.slice (some ⟨g, 0, none⟩) (us.length + 1) capN))) := ⟨by have := S3.out; rw [HUS.out, HW.out] at this; rw [HUS.out]; exact this⟩
                clear S3 H3
                go_wp2_with fail
                exact ⟨⟨i + 1, _, _, _, by omega, by go_num, S4.out⟩, by simp [intOf]; omega⟩
          · obtain rfl : i = k := by omega
            have hin : ¬ (i : Int) < n := by omega
            clear hNk
            have HSK : Kp (hS B (gK B) = hS B i) := ⟨by rw [HKE.out]⟩
            have HIK : Kp (hW B i = hW B (gK B)) := ⟨by rw [HKE.out]⟩
            clear he
            go_wp2_with fail
            clear c2 hek
            refine (rend_any M I B _ _ wr S0.out.i).mono ?_
            rintro r w5 ⟨rfl, o5, h5⟩
            rw [← HSK.out, show (if 0 < rleft B (hS B (gK B)).1 (hS B (gK B)).2 then 10 else (hS B (gK B)).2) = gEnd B from rfl]
            have S5 : Kp (Blk w5 R (HZ 69) ∧ Blk w5 H (.cells #[.int .u8 hd, .slice av nv cv] 69) ∧ w5.ownsRow (H + 1) 98 1 (.slice av nv cv) (hW B i).length (uv (hW B i)) ∧ Below R w w5 ∧ R < H) := ⟨h5.keep S0.out.r (by have := S0.out.ri; omega), h5.keep S0.out.h (by have := S0.out.ih; omega), ownsRow_turn S0.out.o h5 (by have := S0.out.ih; omega), S0.out.below.trans (h5.below (by have := S0.out.ri; omega) (by have := S0.out.r.lt; omega)), by have := S0.out.ri; have := S0.out.ih; omega⟩
            have HU5 := Kp.mk S0.out.u
            clear h5 S0
            by_cases hg : gEnd B = 0
            · have HGE := Kp.mk hg
              rw [hg]
              clear hg
              go_wp2_with (first
                | (refine wpList_load_row rfl 69 (.tmp 5) rfl H rfl 69 #[.int .u8 hd, .slice av nv cv] (0, 0) _ S5.out.2.1 Tryd.underlying69 rfl info69s ?_)
                | (refine wpList_store_row rfl 69 (.tmp 2) (.tmp 57) rfl R #[.int .u8 hd, .slice av nv cv] rfl rfl 69 _ S5.out.1 info69s rfl (h_one _ _ _ _) ?_; refine wpl_world (w := w5.setRow R #[.int .u8 hd, .slice av nv cv]) (fun W => Blk W R (.cells #[.int .u8 hd, .slice av nv cv] 69) ∧ HoldsU W W.heap.size (.slice av nv cv) (hW B i) ∧ Below R w W) ⟨(Turn.ofRow S5.out.1 _).blk, HoldsU.ofRow HU5.out (ownsRow_turn S5.out.2.2.1 (Turn.ofRow S5.out.1 _) (by have := S5.out.2.2.2.2; omega)), S5.out.2.2.2.1.trans ((Turn.ofRow S5.out.1 _).below (Nat.le_refl _) (by have := S5.out.1.lt; omega))⟩ ?_; rintro W6 h6; have S6 := Kp.mk h6; clear h6))
              exact bodyPost_ret (results_row_tmp' rfl _ _ R 69 _ _ _ (.int .i64 0) rfl rfl S6.out.1 Tryd.underlying69 rfl info69s) rfl ⟨av, nv, cv, by unfold gX; rw [if_pos HGE.out, HGE.out, ← HHD.out], by unfold gW; rw [if_pos HGE.out, ← HIK.out]; exact S6.out.2.1, by rw [← HRe.out]; exact S6.out.2.2⟩
            · have HGE := Kp.mk hg
              have hne : (gEnd B != 0) = true := by simpa using hg
              obtain ⟨E, hE⟩ : ∃ E, E = gEnd B := ⟨_, rfl⟩
              have HE := Kp.mk hE
              rw [← hE] at hne ⊢
              clear hg hE
              go_wp2_with (refine wpList_store_row rfl 69 (.tmp 2) (.tmp 55) rfl R #[.int .u8 0, .slice none 0 0] rfl rfl 69 _ S5.out.1 info69s rfl (h_one _ _ _ _) ?_; refine wpl_world (w := w5.setRow R #[.int .u8 0, .slice none 0 0]) (fun W => Blk W R (HZ 69) ∧ Below R w W) ⟨(Turn.ofRow S5.out.1 _).blk, S5.out.2.2.2.1.trans ((Turn.ofRow S5.out.1 _).below (Nat.le_refl _) (by have := S5.out.1.lt; omega))⟩ ?_; rintro W6 h6; have S6 := Kp.mk h6; clear h6)
              exact bodyPost_ret (results_row_tmp' rfl _ _ R 69 _ _ _ (.int .i64 E) rfl rfl S6.out.1 Tryd.underlying69 rfl info69s) rfl ⟨none, 0, 0, by unfold gX; rw [if_neg HGE.out, HE.out], by unfold gW; rw [if_neg HGE.out]; exact HoldsU.nil _ _, by rw [← HRe.out]; exact S6.out.2⟩
        · by_cases hin : (i : Int) < n
          · have HSK : Kp (hS B (gK B) = hS B i) := ⟨by have := hS_stay (i := i) he (gK B - i); rw [show i + (gK B - i) = gK B by have := HKE.out; omega] at this; exact this⟩
            have hg : gEnd B ≠ 0 := by
              unfold gEnd
              rw [HSK.out]
              have : rleft B (hS B i).1 (hS B i).2 = 0 := by unfold rleft; rw [if_neg he]
              rw [this, if_neg (by omega)]
              exact he
            have hek : ((hS B i).2 == 0) = false := by simpa using he
            go_wp2_with fail
            clear c2 hek he
            refine (rend_any M I B _ _ wr S0.out.i).mono ?_
            rintro r w5 ⟨rfl, o5, h5⟩
            rw [← HSK.out, show (if 0 < rleft B (hS B (gK B)).1 (hS B (gK B)).2 then 10 else (hS B (gK B)).2) = gEnd B from rfl]
            have S5 : Kp (Blk w5 R (HZ 69) ∧ Blk w5 H (.cells #[.int .u8 hd, .slice av nv cv] 69) ∧ w5.ownsRow (H + 1) 98 1 (.slice av nv cv) (hW B i).length (uv (hW B i)) ∧ Below R w w5 ∧ R < H) := ⟨h5.keep S0.out.r (by have := S0.out.ri; omega), h5.keep S0.out.h (by have := S0.out.ih; omega), ownsRow_turn S0.out.o h5 (by have := S0.out.ih; omega), S0.out.below.trans (h5.below (by have := S0.out.ri; omega) (by have := S0.out.r.lt; omega)), by have := S0.out.ri; have := S0.out.ih; omega⟩
            have HU5 := Kp.mk S0.out.u
            clear h5 S0
            have HGE := Kp.mk hg
            have hne : (gEnd B != 0) = true := by simpa using hg
            obtain ⟨E, hE⟩ : ∃ E, E = gEnd B := ⟨_, rfl⟩
            have HE := Kp.mk hE
            rw [← hE] at hne ⊢
            clear hg hE
            go_wp2_with (refine wpList_store_row rfl 69 (.tmp 2) (.tmp 55) rfl R #[.int .u8 0, .slice none 0 0] rfl rfl 69 _ S5.out.1 info69s rfl (h_one _ _ _ _) ?_; refine wpl_world (w := w5.setRow R #[.int .u8 0, .slice none 0 0]) (fun W => Blk W R (HZ 69) ∧ Below R w W) ⟨(Turn.ofRow S5.out.1 _).blk, S5.out.2.2.2.1.trans ((Turn.ofRow S5.out.1 _).below (Nat.le_refl _) (by have := S5.out.1.lt; omega))⟩ ?_; rintro W6 h6; have S6 := Kp.mk h6; clear h6)
            exact bodyPost_ret (results_row_tmp' rfl _ _ R 69 _ _ _ (.int .i64 E) rfl rfl S6.out.1 Tryd.underlying69 rfl info69s) rfl ⟨none, 0, 0, by unfold gX; rw [if_neg HGE.out, HE.out], by unfold gW; rw [if_neg HGE.out]; exact HoldsU.nil _ _, by rw [← HRe.out]; exact S6.out.2⟩
          · have HSK : Kp (hS B (gK B) = hS B i) := ⟨by have := hS_stay (i := i) he (gK B - i); rw [show i + (gK B - i) = gK B by have := HKE.out; omega] at this; exact this⟩
            have hg : gEnd B ≠ 0 := by
              unfold gEnd
              rw [HSK.out]
              have : rleft B (hS B i).1 (hS B i).2 = 0 := by unfold rleft; rw [if_neg he]
              rw [this, if_neg (by omega)]
              exact he
            have hek : ((hS B i).2 == 0) = false := by simpa using he
            go_wp2_with fail
            clear c2 hek he
            refine (rend_any M I B _ _ wr S0.out.i).mono ?_
            rintro r w5 ⟨rfl, o5, h5⟩
            rw [← HSK.out, show (if 0 < rleft B (hS B (gK B)).1 (hS B (gK B)).2 then 10 else (hS B (gK B)).2) = gEnd B from rfl]
            have S5 : Kp (Blk w5 R (HZ 69) ∧ Blk w5 H (.cells #[.int .u8 hd, .slice av nv cv] 69) ∧ w5.ownsRow (H + 1) 98 1 (.slice av nv cv) (hW B i).length (uv (hW B i)) ∧ Below R w w5 ∧ R < H) := ⟨h5.keep S0.out.r (by have := S0.out.ri; omega), h5.keep S0.out.h (by have := S0.out.ih; omega), ownsRow_turn S0.out.o h5 (by have := S0.out.ih; omega), S0.out.below.trans (h5.below (by have := S0.out.ri; omega) (by have := S0.out.r.lt; omega)), by have := S0.out.ri; have := S0.out.ih; omega⟩
            have HU5 := Kp.mk S0.out.u
            clear h5 S0
            have HGE := Kp.mk hg
            have hne : (gEnd B != 0) = true := by simpa using hg
            obtain ⟨E, hE⟩ : ∃ E, E = gEnd B := ⟨_, rfl⟩
            have HE := Kp.mk hE
            rw [← hE] at hne ⊢
            clear hg hE
            go_wp2_with (refine wpList_store_row rfl 69 (.tmp 2) (.tmp 55) rfl R #[.int .u8 0, .slice none 0 0] rfl rfl 69 _ S5.out.1 info69s rfl (h_one _ _ _ _) ?_; refine wpl_world (w := w5.setRow R #[.int .u8 0, .slice none 0 0]) (fun W => Blk W R (HZ 69) ∧ Below R w W) ⟨(Turn.ofRow S5.out.1 _).blk, S5.out.2.2.2.1.trans ((Turn.ofRow S5.out.1 _).below (Nat.le_refl _) (by have := S5.out.1.lt; omega))⟩ ?_; rintro W6 h6; have S6 := Kp.mk h6; clear h6)
            exact bodyPost_ret (results_row_tmp' rfl _ _ R 69 _ _ _ (.int .i64 E) rfl rfl S6.out.1 Tryd.underlying69 rfl info69s) rfl ⟨none, 0, 0, by unfold gX; rw [if_neg HGE.out, HE.out], by unfold gW; rw [if_neg HGE.out]; exact HoldsU.nil _ _, by rw [← HRe.out]; exact S6.out.2⟩
end Go.Proofs.YtgabjmmmiogfjaaDoor
