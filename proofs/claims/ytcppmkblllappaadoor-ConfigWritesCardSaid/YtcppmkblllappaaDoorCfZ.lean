/-
  The program's Text.
-/
import Derived.Test.YtcppmkblllappaaDoorCfY
import Derived.Deep.RegionHeld3
namespace Go.Proofs.YtcppmkblllappaaDoor
open Go.RowKit

theorem txL_snoc (f : Nat → Int) : ∀ n i, txL f (n + 1) i = txL f n i ++ (lnL f (i + n) ++ [10]) := by
  intro n
  induction n with
  | zero => intro i; simp [txL]
  | succ n ih =>
    intro i
    have h := ih (i + 1)
    rw [txL, h]
    conv => rhs; rw [txL]
    simp only [List.append_assoc, List.cons_append]
    rw [show i + 1 + n = i + (n + 1) by omega]
theorem line_str (f : Nat → Int) (i : Nat) : Lib.strCells (((nmA i ++ ⟨#[32]⟩) ++ ⟨(Lib.itoa (f i)).toArray⟩) ++ ⟨#[10]⟩) = Lib.byteCells (lnL f i ++ [10]) := by
  rw [Lib.strCells_eq]
  congr 1
  unfold lnL
  simp
theorem IsBd.keep {B b : Nat} {bs : List Value} {w w' : World} (h : IsBd B b bs w) (hb : Below w.heap.size w w') : IsBd B b bs w' := by
  have hg : w.grownBy w' none := ⟨hb.os, hb.tape, hb.output, hb.size, fun k hk _ => hb.block k hk⟩
  have hk : ∀ p, Lib.BuilderAtF 80 5 B b p bs w → Lib.BuilderAtF 80 5 B b p bs w' := fun p hp => by
    obtain ⟨h1, v, h2, h3, h4⟩ := hp
    have hlt : b < w.heap.size := (Array.getElem?_eq_some_iff.1 h2).1
    refine ⟨h1, v, (hb.block b hlt).trans h2, h3.kept hg ?_, h4⟩
    cases hv : v.ownBlock with
    | none => exact .inl rfl
    | some k => exact .inr (by simp)
  exact h.elim (fun x => .inl (hk _ x)) (fun x => .inr (hk _ x))
/-- The rules, the builder, the numbers, the number at hand. -/
structure TA (w0 : World) (f : Nat → Int) (D L : Nat) (bs : List Value) (w : World) : Prop where
  f : Blk w w0.heap.size (rObj f)
  bd : IsBd D D bs w
  l : Blk w L (nbObj w0.heap.size)
  hb : Below w0.heap.size w0 w
  d0 : D = w0.heap.size + 1
  dl : D < L
structure TB (w0 : World) (f : Nat → Int) (D L X i : Nat) (bs : List Value) (w : World) : Prop extends TA w0 f D L bs w where
  x : Blk w X (.cells (nbc w0.heap.size i).toArray 75)
  lx : L < X
theorem TA.dlt {w0 : World} {f : Nat → Int} {D L : Nat} {bs : List Value} {w : World} (h : TA w0 f D L bs w) : D < w.heap.size := Nat.lt_trans h.dl h.l.lt
theorem TA.keep {w0 : World} {f : Nat → Int} {D L : Nat} {bs : List Value} {w w' : World} (h : TA w0 f D L bs w) (hb : Below w.heap.size w w') : TA w0 f D L bs w' :=
  ⟨h.f.keep hb, h.bd.keep hb, h.l.keep hb, h.hb.trans (hb.mono h.hb.size), h.d0, h.dl⟩
theorem TB.keep {w0 : World} {f : Nat → Int} {D L X i : Nat} {bs : List Value} {w w' : World} (h : TB w0 f D L X i bs w) (hb : Below w.heap.size w w') : TB w0 f D L X i bs w' :=
  ⟨h.toTA.keep hb, h.x.keep hb, h.lx⟩
theorem TB.drew {w0 : World} {f : Nat → Int} {D L X i : Nat} {bs : List Value} {w : World} (h : TB w0 f D L X i bs w) : TB w0 f D L X i bs w.drew := h.keep (Below.drew (Below.refl _ _))
theorem kept_row {w w' : World} {k b : Nat} {cs : Array Value} {t : TypeId} (h : Blk w k (.cells cs t)) (hk : Lib.OthersKept 5 (some b) w w') (hne : k ≠ b) (ht : t ≠ 5) : Blk w' k (.cells cs t) :=
  hk k _ h (fun e => hne (Option.some.inj e)) (fun c fz e => by injection e with _ h2 _; exact ht h2)
theorem TB.wrote {w0 : World} {f : Nat → Int} {D L X i : Nat} {bs bs2 bs3 : List Value} {w w' : World} (h : TB w0 f D L X i bs w) (e : bs ++ bs2 = bs3) (h1 : Bd D D (bs ++ bs2) w') (h2 : Below D w w') (h3 : Lib.OthersKept 5 (some D) w w') :
    TB w0 f D L X i bs3 w' := by
  have hd := h.d0
  have hdl := h.dl
  have hlx := h.lx
  exact ⟨⟨kept_row h.f h3 (by omega) (by decide), .inr (e ▸ h1), kept_row h.l h3 (by omega) (by decide), h.hb.trans (h2.mono (by omega)), h.d0, h.dl⟩, kept_row h.x h3 (by omega) (by decide), h.lx⟩
set_option maxRecDepth 100000 in
set_option maxHeartbeats 12800000 in
theorem text_any (f : Nat → Int) (hf : I64s f) (w : World) (hk : Kon w) : Calls Tryd.prog 15 #[.agg (rc f).toArray] w fun e w' => e = .returned (.string (textV f)) ∧ Below w.heap.size w w' := by
  have hA := fun (w : World) => box_row (t := 33) (cs := rc f) (info33s f) w
  have HK := Kp.mk hk
  have HF := Kp.mk hf
  obtain ⟨B0, hB0⟩ : ∃ B, B = w.heap.size := ⟨_, rfl⟩
  obtain ⟨D, hD⟩ : ∃ D, D = w.heap.size + 1 := ⟨_, rfl⟩
  have HB0 := Kp.mk hB0
  have HD := Kp.mk hD
  obtain ⟨w1, hw1⟩ : ∃ w1, w1 = (w.alloc (rObj f)).alloc (.cells #[.pointer none, .slice none 0 0] 80) := ⟨_, rfl⟩
  have HW1 := Kp.mk hw1
  have K1 : Kp (Blk w1 w.heap.size (rObj f) ∧ IsBd D D [] w1 ∧ Below w.heap.size w w1 ∧ w1.heap.size = D + 1) := ⟨by
    rw [hw1]
    refine ⟨(Blk.new _ _).old _, ?_, more (more (Below.refl _ _) _) _, by rw [hD]; simp⟩
    have := Lib.IsBuilderF.of (Lib.fresh_isBuilder 80 5 (w.alloc (rObj f)))
    rw [show (w.alloc (rObj f)).heap.size = D by rw [hD]; simp] at this
    exact this⟩
  clear hB0 hD hw1 hk hf
  go_enter Tryd.func15, Tryd.ntmps15
  go_upto_region 2 with (refine wpList_box_eq rfl 33 (.tmp 0) rfl _ rfl _ _ (hA _) ?_)
  rw [← HW1.out, ← HD.out]
  clear hA HW1
  go_wp2_with fail
  refine (numbers_any w.heap.size _).mono ?_
  rintro e w2 ⟨L, rfl, hL, hlL, hb⟩
  have K2 : Kp (TA w f D L (Lib.byteCells (txL f 0 0)) w2) := ⟨⟨K1.out.1.keep hb, K1.out.2.1.keep hb, hL, K1.out.2.2.1.trans (hb.mono K1.out.2.2.1.size), HD.out, by have := K1.out.2.2.2; omega⟩⟩
  clear hL hlL hb K1
  go_wp2_with fail
  go_loopw [8] (fun ct wr => ∃ i : Nat, i ≤ 15 ∧ ct = .int .i64 i ∧ Kp (TA w f D L (Lib.byteCells (txL f i 0)) wr)) (fun ct _ => 15 - (intOf ct).toNat)
  case atStart => exact ⟨0, by omega, rfl, K2⟩
  case round =>
    clear K2
    obtain ⟨i, hi, rfl, K3⟩ := hrel
    by_cases hlt : i < 15
    · have hlt' : (i : Int) < 15 := by omega
      have HLT := Kp.mk hlt
      have hrg := nb_cells K3.out.l hlt
      have n0 : wr.cell? ⟨L, i * 5, none⟩ = some (.string (nmA i)) := hrg 0 _ rfl
      have n1 : wr.cell? ⟨L, i * 5 + 1, none⟩ = some (.int .i64 (ls i)) := hrg 1 _ rfl
      have n2 : wr.cell? ⟨L, i * 5 + 2, none⟩ = some (.int .i64 (gt i)) := hrg 2 _ rfl
      have n3 : wr.cell? ⟨L, i * 5 + 3, none⟩ = some (.int .i64 (us i)) := hrg 3 _ rfl
      have n4 : wr.cell? ⟨L, i * 5 + 4, none⟩ = some (.pointer (some ⟨B0, i, none⟩)) := by rw [HB0.out]; exact hrg 4 _ rfl
      obtain ⟨X, hX⟩ : ∃ X, X = wr.heap.size := ⟨_, rfl⟩
      have K4 : Kp (TB w f D L X i (Lib.byteCells (txL f i 0)) (wr.alloc (.cells #[.string (nmA i), .int .i64 (ls i), .int .i64 (gt i), .int .i64 (us i), .pointer (some ⟨B0, i, none⟩)] 75))) := ⟨by
        rw [HB0.out]
        exact ⟨K3.out.keep (more (Below.refl _ _) _), Blk.newAt _ hX, by rw [hX]; exact K3.out.l.lt⟩⟩
      have HX0 := Kp.mk hX
      obtain ⟨nm, hnm⟩ : ∃ nm, nm = nmA i := ⟨_, rfl⟩
      obtain ⟨x, hx⟩ : ∃ x, x = f i := ⟨_, rfl⟩
      have HNM := Kp.mk hnm
      have HX := Kp.mk hx
      have HI : Kp (-9223372036854775808 ≤ x ∧ x ≤ 9223372036854775807) := ⟨by rw [hx]; exact HF.out i⟩
      have HAP : Kp (Lib.byteCells (txL f i 0) ++ Lib.strCells (((nm ++ ⟨#[32]⟩) ++ ⟨(Lib.itoa x).toArray⟩) ++ ⟨#[10]⟩) = Lib.byteCells (txL f (i + 1) 0)) := ⟨by rw [hnm, hx, line_str, ← Lib.byteCells_append, txL_snoc, Nat.zero_add]⟩
      have HSZ : Kp ((txL f i 0).length + (((nm ++ ⟨#[32]⟩) ++ ⟨(Lib.itoa x).toArray⟩) ++ ⟨#[10]⟩ : ByteArray).size ≤ 1000) := ⟨by
        have h1 := tx_len f HF.out (i + 1) 0 (by omega)
        have h2 := congrArg List.length HAP.out
        rw [List.length_append, Lib.byteCells_length, Lib.byteCells_length, Lib.strCells_length] at h2
        omega⟩
      have HQ : Kp (nm.size ≤ 11 ∧ (Lib.itoa x).length ≤ 21) := ⟨by
        have h1 := (nm_len i HLT.out).1
        rw [hnm]
        exact ⟨by show (nmA i).data.size ≤ 11; simpa using h1, Lib.itoa_length_le x HI.out.1 HI.out.2⟩⟩
      rw [← hnm] at n0 K4
      generalize ls i = li at n1 K4
      generalize gt i = gi at n2 K4
      generalize us i = ui at n3 K4
      clear hrg hlt K3 hX hnm hx
      go_wp2_with fail
      revert K4
      generalize wr.alloc (.cells #[.string nm, .int .i64 li, .int .i64 gi, .int .i64 ui, .pointer (some ⟨B0, i, none⟩)] 75) = w4
      intro K4
      rw [← HX0.out]
      clear n0 n1 n2 n3 n4
      refine wp_region_held_drew (S := fun w' => ∃ bs, TB w f D L X i bs w') (by kernel_rfl) (⟨_, K4.out.drew⟩) (fun hH => ?_)
      refine wpAnyH_take (i := 0) (oi := { dst := some 12, op := Go.Op.fieldAddr 75 (Go.Operand.tmp 5) 0, type := 0, pos := "config.go:148", after := #[], guard := none }) (v := .pointer (some ⟨X, 0, none⟩)) rfl (by kernel_rfl) (by kernel_rfl) (by kernel_rfl) (fun _ _ _ h => h) (Or.inl ⟨by rfl, fun wx hS => by
          obtain ⟨bs, hS⟩ := hS
          first | (go_simp; done) | (go_simp; omega) | (go_simp; with_reducible rfl) | (go_simp; rfl)⟩) hH ?_
      simp only [Act.put, List.setIfInBounds_toArray, List.set_cons_zero, List.set_cons_succ]
      refine wpAnyH_take (i := 1) (oi := { dst := some 13, op := Go.Op.load 9 (Go.Operand.tmp 12), type := 9, pos := "config.go:148", after := #[{ on := 0, ground := Go.Ground.data }], guard := none }) (v := .string nm) rfl (by kernel_rfl) (by kernel_rfl) (by kernel_rfl) (fun _ _ _ h => h) (Or.inl ⟨by rfl, fun wx hS => by
          obtain ⟨bs, hS⟩ := hS
          have hc : wx.cell? ⟨X, 0, none⟩ = some (.string nm) := by rw [HNM.out]; exact hS.x.cell 0
          first | (go_simp; done) | (go_simp; omega) | (go_simp; with_reducible rfl) | (go_simp; rfl)⟩) hH ?_
      simp only [Act.put, List.setIfInBounds_toArray, List.set_cons_zero, List.set_cons_succ]
      refine wpAnyH_take (i := 2) (oi := { dst := some 14, op := Go.Op.binOp Go.BinOp.add 9 (Go.Operand.tmp 13) (Go.Operand.const (Go.Value.string { data := #[32] })) 9, type := 9, pos := "config.go:148", after := #[{ on := 1, ground := Go.Ground.data }], guard := none }) (v := .string (nm ++ ⟨#[32]⟩)) rfl (by kernel_rfl) (by kernel_rfl) (by kernel_rfl) (fun _ _ _ h => h) (Or.inl ⟨by rfl, fun wx hS => by
          obtain ⟨bs, hS⟩ := hS
          have hq := HQ.out
          first | (go_simp; done) | (go_simp; omega) | (go_simp; with_reducible rfl) | (go_simp; rfl)⟩) hH ?_
      simp only [Act.put, List.setIfInBounds_toArray, List.set_cons_zero, List.set_cons_succ]
      refine wpAnyH_take (i := 3) (oi := { dst := some 15, op := Go.Op.fieldAddr 75 (Go.Operand.tmp 5) 4, type := 0, pos := "config.go:148", after := #[], guard := none }) (v := .pointer (some ⟨X, 4, none⟩)) rfl (by kernel_rfl) (by kernel_rfl) (by kernel_rfl) (fun _ _ _ h => h) (Or.inl ⟨by rfl, fun wx hS => by
          obtain ⟨bs, hS⟩ := hS
          first | (go_simp; done) | (go_simp; omega) | (go_simp; with_reducible rfl) | (go_simp; rfl)⟩) hH ?_
      simp only [Act.put, List.setIfInBounds_toArray, List.set_cons_zero, List.set_cons_succ]
      refine wpAnyH_take (i := 4) (oi := { dst := some 16, op := Go.Op.load 73 (Go.Operand.tmp 15), type := 73, pos := "config.go:148", after := #[{ on := 3, ground := Go.Ground.data }], guard := none }) (v := .pointer (some ⟨B0, i, none⟩)) rfl (by kernel_rfl) (by kernel_rfl) (by kernel_rfl) (fun _ _ _ h => h) (Or.inl ⟨by rfl, fun wx hS => by
          obtain ⟨bs, hS⟩ := hS
          have hc : wx.cell? ⟨X, 4, none⟩ = some (.pointer (some ⟨B0, i, none⟩)) := by rw [HB0.out]; exact hS.x.cell 4
          first | (go_simp; done) | (go_simp; omega) | (go_simp; with_reducible rfl) | (go_simp; rfl)⟩) hH ?_
      simp only [Act.put, List.setIfInBounds_toArray, List.set_cons_zero, List.set_cons_succ]
      refine wpAnyH_take (i := 5) (oi := { dst := some 17, op := Go.Op.nilCheck (Go.Operand.tmp 16), type := 0, pos := "config.go:148", after := #[{ on := 4, ground := Go.Ground.data }], guard := none }) (v := .pointer (some ⟨B0, i, none⟩)) rfl (by kernel_rfl) (by kernel_rfl) (by kernel_rfl) (fun _ _ _ h => h) (Or.inl ⟨by rfl, fun wx hS => by
          obtain ⟨bs, hS⟩ := hS
          first | (go_simp; done) | (go_simp; omega) | (go_simp; with_reducible rfl) | (go_simp; rfl)⟩) hH ?_
      simp only [Act.put, List.setIfInBounds_toArray, List.set_cons_zero, List.set_cons_succ]
      refine wpAnyH_take (i := 6) (oi := { dst := some 18, op := Go.Op.load 3 (Go.Operand.tmp 17), type := 3, pos := "config.go:148", after := #[{ on := 5, ground := Go.Ground.data }], guard := none }) (v := .int .i64 x) rfl (by kernel_rfl) (by kernel_rfl) (by kernel_rfl) (fun _ _ _ h => h) (Or.inl ⟨by rfl, fun wx hS => by
          obtain ⟨bs, hS⟩ := hS
          have hc : wx.cell? ⟨B0, i, none⟩ = some (.int .i64 x) := by rw [HX.out, HB0.out]; exact hS.f.rc HLT.out
          first | (go_simp; done) | (go_simp; omega) | (go_simp; with_reducible rfl) | (go_simp; rfl)⟩) hH ?_
      simp only [Act.put, List.setIfInBounds_toArray, List.set_cons_zero, List.set_cons_succ]
      refine wpAnyH_ready (rs := [7]) (by kernel_rfl) (by simp) ?_
      refine AllReadyH.cons (o := { dst := some 19, op := Go.Op.call { callee := Go.Callee.value (Go.Operand.func 33), args := #[Go.Operand.tmp 18], argTypes := #[3] }, type := 9, pos := "config.go:148", after := #[{ on := 6, ground := Go.Ground.data }], guard := none }) rfl (fun K hK => ?_) AllReadyH.nil
      go_simp
      refine (itoa_ok x HI.out _ (HK.out.keep K4.out.drew.hb)).mono ?_
      rintro e w1 ⟨rfl, hb⟩
      have F1 := Kp.mk (K4.out.drew.keep hb)
      clear hb K4
      refine hK.out _ _ (⟨_, F1.out⟩) (fun hHn => ?_)
      clear hK K hH
      have hH := hHn
      clear hHn
      try simp only [Act.put, List.setIfInBounds_toArray, List.set_cons_zero, List.set_cons_succ]
      refine wpAnyH_take (i := 8) (oi := { dst := some 20, op := Go.Op.binOp Go.BinOp.add 9 (Go.Operand.tmp 14) (Go.Operand.tmp 19) 9, type := 9, pos := "config.go:148", after := #[{ on := 2, ground := Go.Ground.data }, { on := 7, ground := Go.Ground.data }], guard := none }) (v := .string ((nm ++ ⟨#[32]⟩) ++ ⟨(Lib.itoa x).toArray⟩)) rfl (by kernel_rfl) (by kernel_rfl) (by kernel_rfl) (fun _ _ _ h => h) (Or.inl ⟨by rfl, fun wx hS => by
          obtain ⟨bs, hS⟩ := hS
          have hq := HQ.out
          first | (go_simp; done) | (go_simp; omega) | (go_simp; with_reducible rfl) | (go_simp; rfl)⟩) hH ?_
      simp only [Act.put, List.setIfInBounds_toArray, List.set_cons_zero, List.set_cons_succ]
      refine wpAnyH_take (i := 9) (oi := { dst := some 21, op := Go.Op.binOp Go.BinOp.add 9 (Go.Operand.tmp 20) (Go.Operand.const (Go.Value.string { data := #[10] })) 9, type := 9, pos := "config.go:148", after := #[{ on := 8, ground := Go.Ground.data }], guard := none }) (v := .string (((nm ++ ⟨#[32]⟩) ++ ⟨(Lib.itoa x).toArray⟩) ++ ⟨#[10]⟩)) rfl (by kernel_rfl) (by kernel_rfl) (by kernel_rfl) (fun _ _ _ h => h) (Or.inl ⟨by rfl, fun wx hS => by
          obtain ⟨bs, hS⟩ := hS
          have hq := HQ.out
          first | (go_simp; done) | (go_simp; omega) | (go_simp; with_reducible rfl) | (go_simp; rfl)⟩) hH ?_
      simp only [Act.put, List.setIfInBounds_toArray, List.set_cons_zero, List.set_cons_succ]
      refine wpAnyH_ready (rs := [10]) (by kernel_rfl) (by simp) ?_
      refine AllReadyH.cons (o := { dst := some 22, op := Go.Op.call { callee := Go.Callee.value (Go.Operand.func 32), args := #[Go.Operand.tmp 3, Go.Operand.tmp 21], argTypes := #[80, 9] }, type := 83, pos := "config.go:148", after := #[{ on := 9, ground := Go.Ground.data }, { on := 7, ground := Go.Ground.chain }], guard := none }) rfl (fun K hK => ?_) AllReadyH.nil
      go_simp
      refine (writeString_any D D (Lib.byteCells (txL f i 0)) _ _ F1.out.bd (by rw [Lib.byteCells_length]; have := HSZ.out; omega) (Nat.le_of_lt F1.out.dlt)).mono ?_
      rintro e w2 ⟨rfl, hb1, hb2, hb3⟩
      have F2 := Kp.mk (F1.out.wrote HAP.out hb1 hb2 hb3)
      clear hb1 hb2 hb3 F1
      refine hK.out _ _ (⟨_, F2.out⟩) (fun hHn => ?_)
      clear hK K hH
      have hH := hHn
      clear hHn
      try simp only [Act.put, List.setIfInBounds_toArray, List.set_cons_zero, List.set_cons_succ]
      clear hH
      refine wpAnyH_done (by kernel_rfl) ?_ _
      go_wp2_with fail
      exact ⟨⟨i + 1, by have := HLT.out; omega, by go_num, ⟨F2.out.toTA⟩⟩, by have := HLT.out; simp [intOf]; omega⟩
    · have hi : i = 15 := by omega
      subst hi
      clear hlt
      go_wp2_with fail
      refine (builderString_any D D (txL f 15 0) _ K3.out.bd (Nat.le_of_lt K3.out.dlt)).mono ?_
      rintro e w5 ⟨rfl, hb⟩
      have K5 : Kp (Below w.heap.size w w5) := ⟨K3.out.hb.trans (hb.mono (by have := HD.out; omega))⟩
      clear hb K3
      go_wp2_with fail
      go_ret
      exact ⟨rfl, K5.out⟩
end Go.Proofs.YtcppmkblllappaaDoor
