/-
  A piece's bytes, by the program and by the document: in new memory.
-/
import Derived.Test.YtioeaknhcfkfcaaPcV
namespace Go.Proofs.Ytioeaknhcfkfcaa
open Go.RowKit

/-- What owns a block owns one of bytes. -/
def Typed (w : World) (v : Value) : Prop := ∀ k, v.ownBlock = some k → ∃ cur, w.heap[k]? = some (.cells cur 5 (0, 0))
theorem Typed.grow {w w' : World} {v : Value} (h : Typed w v) (hb : Below w.heap.size w w') : Typed w' v := fun k hk => by
  obtain ⟨cur, hc⟩ := h k hk
  exact ⟨cur, (hb.block k (Array.getElem?_eq_some_iff.1 hc).1).trans hc⟩
/-- Bytes in a row of the call's own. -/
def HoldsT (w : World) (v : Value) (l : List Int) : Prop := HoldsB w w.heap.size v l ∧ Typed w v
theorem HoldsT.grow {w w' : World} {v : Value} {l : List Int} (h : HoldsT w v l) (hb : Below w.heap.size w w') : HoldsT w' v l := ⟨h.1.grow hb, h.2.grow hb⟩
theorem Typed.own {w : World} {B s n : Nat} {v : Value} {xs : List Value} (h : w.ownsRow B 5 s v n xs) : Typed w v := fun k hk => ownsRow_type h hk
theorem newK {w w' : World} {B s n : Nat} {u v : Value} {xs : List Value} (hu : Typed w u) (h : v = u ∨ w'.ownsRow B 5 s v n xs) (hb : Below w.heap.size w w') : Typed w' v := by
  rcases h with rfl | h
  · exact hu.grow hb
  · exact Typed.own h
set_option maxRecDepth 100000 in
set_option maxHeartbeats 4000000 in
theorem putN_good (p : PV) (tp : List Int) (w : World) (h : HoldsB w w.heap.size (.slice p.a p.n p.c) tp) (hr : rightB p = true) (hid : 0 ≤ p.id ∧ p.id ≤ 4294967295) :
    Calls Try.prog 42 #[p.v] w fun r w' => ∃ v, r = .returned (.tuple #[v, .int .i64 0]) ∧ HoldsT w' v (putM p tp) ∧ Below w.heap.size w w' := by
  have H := Kp.mk h
  have HR := Kp.mk (rightB_is hr)
  have hn : p.n = tp.length := by
    obtain ⟨a1, n1, c1, e1, e2⟩ := h.slice
    simp only [Value.slice.injEq] at e1
    omega
  have HNT : Kp (tp.length ≤ 4096) := ⟨by rw [← hn]; exact HR.out.2.2.2.2⟩
  have HID := Kp.mk hid
  have hw1 : IntKind.u64.wrap p.id = p.id := by simp [IntKind.wrap, IntKind.bits, IntKind.signed]; omega
  have hw2 : IntKind.u64.wrap p.at_ = p.at_ := by have := HR.out; simp [IntKind.wrap, IntKind.bits, IntKind.signed]; omega
  have hw3 : IntKind.u64.wrap p.many = p.many := by have := HR.out; simp [IntKind.wrap, IntKind.bits, IntKind.signed]; omega
  clear h hn hid
  go_enter Try.func42, Try.ntmps42
  go_wp2_with fail
  refine (right_any p _).mono ?_
  rintro r w1 ⟨rfl, hb⟩
  obtain ⟨F, hF⟩ : ∃ F, F = w.heap.size := ⟨_, rfl⟩
  have HFe := Kp.mk hF
  have HB1 : Kp (Below F w w1) := ⟨by rw [hF]; exact (more (Below.refl _ _) _).trans (hb.mono (by simp))⟩
  have HP1 : Kp (Blk w1 F (.cells #[.int .u32 p.id, .int .i64 p.at_, .int .i64 p.many, .slice p.a p.n p.c] 103)) := ⟨(Blk.newAt _ hF).keep hb⟩
  have HT1 : Kp (HoldsB w1 F (.slice p.a p.n p.c) tp) := ⟨by rw [hF]; exact (H.out.alloc _).keep hb⟩
  rw [← hF, hr]
  clear hb hF hr
  go_wp2_with fail
  refine (lay_any w1).mono ?_
  rintro r w2 ⟨rfl, rfl⟩
  obtain ⟨O, hO⟩ : ∃ O, O = w1.heap.size := ⟨_, rfl⟩
  have S2 : Kp (PSt w F O p tp (.slice none 0 0) [] false (w1.alloc (outObj (.slice none 0 0) false))) := ⟨by rw [hO]; exact ⟨OutIs.laid w1, HP1.out.old _, HT1.out.alloc _, HB1.out.alloc (by have := HP1.out.lt; omega) _, HP1.out.lt⟩⟩
  rw [← hO]
  clear hO HP1 HT1 HB1
  generalize w1.alloc (outObj (.slice none 0 0) false) = W2 at *
  have p0 : W2.cell? ⟨F, 0, none⟩ = some (.int .u32 p.id) := S2.out.b.cell 0
  go_wp2_with fail
  refine (u32o_any O _ _ _ p.id W2 S2.out.o HID.out.1 (by have := HID.out; omega) (by simp)).mono ?_
  rintro r w3 ⟨rfl, v3, s3⟩
  have e3 := numL_ok (l := []) (n := p.id) (k := 4) (by have := HID.out; omega)
  rw [e3.1, e3.2] at s3
  have S3 := Kp.mk (S2.out.step s3)
  clear s3 p0 e3
  have p1 : w3.cell? ⟨F, 1, none⟩ = some (.int .i64 p.at_) := S3.out.b.cell 1
  obtain ⟨L3, hL3⟩ : ∃ L3, L3 = [] ++ digs p.id 4 := ⟨_, rfl⟩
  have H3 : Kp (L3.length = 4) := ⟨by rw [hL3]; simp [digs_len]⟩
  rw [← hL3] at S3
  have HL3 := Kp.mk hL3
  clear hL3
  go_wp2_with fail
  refine (u8o_any O _ _ _ p.at_ w3 S3.out.o HR.out.2.2.1 (by have := HR.out; omega) (by rw [H3.out]; omega)).mono ?_
  rintro r w4 ⟨rfl, v4, s4⟩
  have e4 := numL_ok (l := L3) (n := p.at_) (k := 1) (by have := HR.out; omega)
  rw [e4.1, e4.2] at s4
  have S4 := Kp.mk (S3.out.step s4)
  clear s4 p1 e4
  have p2 : w4.cell? ⟨F, 2, none⟩ = some (.int .i64 p.many) := S4.out.b.cell 2
  obtain ⟨L4, hL4⟩ : ∃ L4, L4 = L3 ++ digs p.at_ 1 := ⟨_, rfl⟩
  have H4 : Kp (L4.length = 5) := ⟨by rw [hL4]; simp [digs_len, H3.out]⟩
  rw [← hL4] at S4
  have HL4 := Kp.mk hL4
  clear hL4
  go_wp2_with fail
  refine (u8o_any O _ _ _ p.many w4 S4.out.o (by have := HR.out; omega) (by have := HR.out; omega) (by rw [H4.out]; omega)).mono ?_
  rintro r w5 ⟨rfl, v5, s5⟩
  have e5 := numL_ok (l := L4) (n := p.many) (k := 1) (by have := HR.out; omega)
  rw [e5.1, e5.2] at s5
  have S5 := Kp.mk (S4.out.step s5)
  clear s5 p2 e5
  have p3 : w5.cell? ⟨F, 3, none⟩ = some (.slice p.a p.n p.c) := S5.out.b.cell 3
  obtain ⟨L5, hL5⟩ : ∃ L5, L5 = L4 ++ digs p.many 1 := ⟨_, rfl⟩
  have H5 : Kp (L5.length = 6) := ⟨by rw [hL5]; simp [digs_len, H4.out]⟩
  rw [← hL5] at S5
  have HL5 := Kp.mk hL5
  clear hL5
  go_wp2_with fail
  refine (blobo_any O F _ _ _ _ _ w5 S5.out.o S5.out.t (by have := S5.out.fo; omega) (by rw [H5.out]; omega)).mono ?_
  rintro r w6 ⟨rfl, v6, s6⟩
  have e6 : blobL' L5 tp false = putM p tp ∧ blobF' tp false = false := by
    unfold blobL' blobF' putM
    have := HNT.out
    rw [if_neg (by omega), if_neg (by decide), HL5.out, HL4.out, HL3.out]
    exact ⟨by simp, by simp; omega⟩
  rw [e6.1, e6.2] at s6
  have S6 := Kp.mk (S5.out.step s6)
  clear s6 p3 e6
  have HLN : Kp ((putM p tp).length ≤ 1000000) := ⟨by unfold putM; simp [digs_len]; have := HNT.out; omega⟩
  obtain ⟨PM, hPM⟩ : ∃ PM, PM = putM p tp := ⟨_, rfl⟩
  rw [← hPM] at S6 HLN
  have HPM := Kp.mk hPM
  clear hPM
  go_wp2_with fail
  refine (bytes_any O _ _ _ w6 S6.out.o (by have := HLN.out; omega)).mono ?_
  rintro r w7 ⟨v7, rfl, h7, hb⟩
  have HB7 : Kp (Below F w w7) := ⟨S6.out.below.trans (hb.mono (by have := S6.out.b.lt; omega))⟩
  have H7 : Kp (HoldsT w7 v7 PM) := ⟨HoldsB.ofRow S6.out.o.bytes h7, Typed.own h7⟩
  clear h7 hb
  go_wp2_with fail
  exact bodyPost_ret (results_tmp2 rfl _ _ _) rfl ⟨v7, rfl, by rw [← HPM.out]; exact H7.out, by rw [← HFe.out]; exact HB7.out⟩
set_option maxRecDepth 100000 in
set_option maxHeartbeats 4000000 in
theorem rputN_good (p : PV) (tp : List Int) (w : World) (h : HoldsB w w.heap.size (.slice p.a p.n p.c) tp) (hr : rightB p = true) (hid : 0 ≤ p.id ∧ p.id ≤ 4294967295) :
    Calls Try.prog 44 #[p.v] w fun r w' => ∃ v, r = .returned (.tuple #[v, .int .i64 0]) ∧ HoldsT w' v (putM p tp) ∧ Below w.heap.size w w' := by
  have H := Kp.mk h
  have HR := Kp.mk (rightB_is hr)
  have hn : p.n = tp.length := by
    obtain ⟨a1, n1, c1, e1, e2⟩ := h.slice
    simp only [Value.slice.injEq] at e1
    omega
  have HNT : Kp (tp.length ≤ 4096) := ⟨by rw [← hn]; exact HR.out.2.2.2.2⟩
  have HID := Kp.mk hid
  have hw1 : IntKind.u64.wrap p.id = p.id := by simp [IntKind.wrap, IntKind.bits, IntKind.signed]; omega
  have hw2 : IntKind.u64.wrap p.at_ = p.at_ := by have := HR.out; simp [IntKind.wrap, IntKind.bits, IntKind.signed]; omega
  have hw3 : IntKind.u64.wrap p.many = p.many := by have := HR.out; simp [IntKind.wrap, IntKind.bits, IntKind.signed]; omega
  obtain ⟨L3, hL3⟩ : ∃ L3, L3 = ([] : List Int) ++ digs p.id 4 := ⟨_, rfl⟩
  obtain ⟨L4, hL4⟩ : ∃ L4, L4 = L3 ++ digs p.at_ 1 := ⟨_, rfl⟩
  obtain ⟨L5, hL5⟩ : ∃ L5, L5 = L4 ++ digs p.many 1 := ⟨_, rfl⟩
  obtain ⟨PM, hPM⟩ : ∃ PM, PM = putM p tp := ⟨_, rfl⟩
  have H3 : Kp (L3.length = 4) := ⟨by rw [hL3]; simp [digs_len]⟩
  have H4 : Kp (L4.length = 5) := ⟨by rw [hL4]; simp [digs_len, H3.out]⟩
  have H5 : Kp (L5.length = 6) := ⟨by rw [hL5]; simp [digs_len, H4.out]⟩
  have ok : ∀ (l : List Int) (n : Int) (k : Nat), n < 256 ^ k → (if 256 ^ k ≤ n then l else l ++ digs n k) = l ++ digs n k ∧ numF false n k = false := fun l n k h => ⟨if_neg (by omega), by unfold numF; simp; omega⟩
  have E4 : Kp ((if 256 ^ 4 ≤ p.id then ([] : List Int) else [] ++ digs p.id 4) = L3 ∧ numF false p.id 4 = false) := ⟨by rw [hL3]; exact ok _ _ _ (by have := HID.out; omega)⟩
  have E8 : Kp ((if 256 ^ 1 ≤ p.at_ then L3 else L3 ++ digs p.at_ 1) = L4 ∧ numF false p.at_ 1 = false) := ⟨by rw [hL4]; exact ok _ _ _ (by have := HR.out; omega)⟩
  have E12 : Kp ((if 256 ^ 1 ≤ p.many then L4 else L4 ++ digs p.many 1) = L5 ∧ numF false p.many 1 = false) := ⟨by rw [hL5]; exact ok _ _ _ (by have := HR.out; omega)⟩
  have E15 : Kp ((if 4096 < tp.length then L5 else L5 ++ digs tp.length 2 ++ tp) = PM ∧ (false || decide (4096 < tp.length)) = false) := ⟨by
    have := HNT.out
    rw [if_neg (by omega), hPM, hL5, hL4, hL3]
    exact ⟨by unfold putM; simp, by simp; omega⟩⟩
  have HPM := Kp.mk hPM
  clear h hn hid ok hL3 hL4 hL5 hPM
  go_enter Try.func44, Try.ntmps44
  go_wp2_with fail
  refine (rright_any p _).mono ?_
  rintro r w1 ⟨rfl, hb⟩
  obtain ⟨F, hF⟩ : ∃ F, F = w.heap.size := ⟨_, rfl⟩
  have HFe := Kp.mk hF
  have HB1 : Kp (Below F w w1) := ⟨by rw [hF]; exact (more (Below.refl _ _) _).trans (hb.mono (by simp))⟩
  have HP1 : Kp (Blk w1 F (.cells #[.int .u32 p.id, .int .i64 p.at_, .int .i64 p.many, .slice p.a p.n p.c] 109)) := ⟨(Blk.newAt _ hF).keep hb⟩
  have HT1 : Kp (HoldsB w1 F (.slice p.a p.n p.c) tp) := ⟨by rw [hF]; exact (H.out.alloc _).keep hb⟩
  rw [← hF, hr]
  clear hb hF hr
  go_wp2_with fail
  refine wp_region_pred (fun w' => Blk w' F (.cells #[.int .u32 p.id, .int .i64 p.at_, .int .i64 p.many, .slice p.a p.n p.c] 109) ∧ HoldsB w' F (.slice p.a p.n p.c) tp ∧ Below F w w') [0, 1, 2, 3, 4, 5, 6, 7, 8, 9, 10, 11, 12, 13, 14, 15, 16] [17, 18]
    (fun ι w' v => match ι with
      | 0 => v = .agg #[.slice none 0 0, .bool false]
      | 1 => v = .pointer (some ⟨F, 0, none⟩)
      | 2 => v = .int .u32 p.id
      | 3 => v = .int .u64 p.id
      | 5 => v = .pointer (some ⟨F, 1, none⟩)
      | 6 => v = .int .i64 p.at_
      | 7 => v = .int .u64 p.at_
      | 9 => v = .pointer (some ⟨F, 2, none⟩)
      | 10 => v = .int .i64 p.many
      | 11 => v = .int .u64 p.many
      | 13 => v = .pointer (some ⟨F, 3, none⟩)
      | 14 => v = .slice p.a p.n p.c
      | 4 => ∃ u, v = routV u false ∧ HoldsT w' u L3
      | 8 => ∃ u, v = routV u false ∧ HoldsT w' u L4
      | 12 => ∃ u, v = routV u false ∧ HoldsT w' u L5
      | 15 => ∃ u, v = routV u false ∧ HoldsT w' u PM
      | 16 => HoldsT w' v PM
      | _ => v = .bool true)
    [[], [], [(1, some 8)], [(2, some 9)], [(0, some 7), (3, some 10)], [], [(5, some 12)], [(6, some 13)], [(4, some 11), (7, some 14)], [], [(9, some 16)], [(10, some 17)], [(8, some 15), (11, some 18)], [], [(13, some 20)], [(12, some 19), (14, some 21)], [(15, some 22)]]
    [(0, some 7), (1, some 8), (2, some 9), (3, some 10), (4, some 11), (5, some 12), (6, some 13), (7, some 14), (8, some 15), (9, some 16), (10, some 17), (11, some 18), (12, some 19), (13, some 20), (14, some 21), (15, some 22), (16, some 23)]
    (by kernel_rfl) (by kernel_rfl) (by kernel_rfl) (by kernel_rfl) (by kernel_rfl) (by kernel_rfl) (by decide) (by decide) (fun w1 w2 h hb => ⟨h.1.keep hb, h.2.1.keep hb, h.2.2.trans (hb.mono (Nat.le_of_lt h.1.lt))⟩) ?_ ⟨HP1.out.keep (Below.refl _ _).drew, HT1.out.keep (Below.refl _ _).drew, HB1.out.drew⟩ ?_ ?_
  · intro ι w1 w2 v h hb
    by_cases h4 : ι = 4
    · subst h4
      exact (by obtain ⟨u, e, hg⟩ := h; exact ⟨u, e, hg.grow hb⟩)
    by_cases h8 : ι = 8
    · subst h8
      exact (by obtain ⟨u, e, hg⟩ := h; exact ⟨u, e, hg.grow hb⟩)
    by_cases h12 : ι = 12
    · subst h12
      exact (by obtain ⟨u, e, hg⟩ := h; exact ⟨u, e, hg.grow hb⟩)
    by_cases h15 : ι = 15
    · subst h15
      exact (by obtain ⟨u, e, hg⟩ := h; exact ⟨u, e, hg.grow hb⟩)
    by_cases h16 : ι = 16
    · subst h16
      exact h.grow hb
    match ι, h4, h8, h12, h15, h16, h with
    | 0, _, _, _, _, _, h => exact h
    | 1, _, _, _, _, _, h => exact h
    | 2, _, _, _, _, _, h => exact h
    | 3, _, _, _, _, _, h => exact h
    | 4, g, _, _, _, _, h => exact absurd rfl g
    | 5, _, _, _, _, _, h => exact h
    | 6, _, _, _, _, _, h => exact h
    | 7, _, _, _, _, _, h => exact h
    | 8, _, g, _, _, _, h => exact absurd rfl g
    | 9, _, _, _, _, _, h => exact h
    | 10, _, _, _, _, _, h => exact h
    | 11, _, _, _, _, _, h => exact h
    | 12, _, _, g, _, _, h => exact absurd rfl g
    | 13, _, _, _, _, _, h => exact h
    | 14, _, _, _, _, _, h => exact h
    | 15, _, _, _, g, _, h => exact absurd rfl g
    | 16, _, _, _, _, g, h => exact absurd rfl g
    | _ + 17, _, _, _, _, _, h => exact h
  · refine ⟨fun γ wx hS h => ?_, fun γ wx hS h => ?_, fun γ wx hS h => ?_, fun γ wx hS h => ?_, fun γ wx hS h => ?_, fun γ wx hS h => ?_, fun γ wx hS h => ?_, fun γ wx hS h => ?_, fun γ wx hS h => ?_, fun γ wx hS h => ?_, fun γ wx hS h => ?_, fun γ wx hS h => ?_, fun γ wx hS h => ?_, fun γ wx hS h => ?_, fun γ wx hS h => ?_, fun γ wx hS h => ?_, fun γ wx hS h => ?_, trivial⟩
    · refine ⟨_, rfl, ?_⟩
      refine predOp_val (v := .agg #[.slice none 0 0, .bool false]) ?_ ?_ ?_
      · kernel_rfl
      · simp only [putE]
        go_simp
      · rfl
    · refine ⟨_, rfl, ?_⟩
      refine predOp_val (v := .pointer (some ⟨F, 0, none⟩)) ?_ ?_ ?_
      · kernel_rfl
      · simp only [putE]
        go_simp
      · rfl
    · have h1 := h
      have e1 : γ 1 = .pointer (some ⟨F, 0, none⟩) := h1
      have hcell : wx.cell? ⟨F, 0, none⟩ = some (.int .u32 p.id) := hS.1.cell 0
      refine ⟨_, rfl, ?_⟩
      refine predOp_val (v := .int .u32 p.id) ?_ ?_ ?_
      · kernel_rfl
      · simp only [putE, e1]
        go_simp
      · rfl
    · have h2 := h
      have e2 : γ 2 = .int .u32 p.id := h2
      have hq := hw1
      refine ⟨_, rfl, ?_⟩
      refine predOp_val (v := .int .u64 p.id) ?_ ?_ ?_
      · kernel_rfl
      · simp only [putE, e2]
        go_simp
      · rfl
    · obtain ⟨h0, h3⟩ := h
      have e0 : γ 0 = .agg #[.slice none 0 0, .bool false] := h0
      have e3 : γ 3 = .int .u64 p.id := h3
      refine ⟨_, rfl, Or.inl ⟨rfl, predRun_call (f := 46) (args := #[routV (.slice none 0 0) false, .int .u64 p.id, .int .i64 (4 : Nat)]) (by simp only [putE, e0, e3]; go_simp) ?_⟩⟩
      exact (rnum_any _ (.slice none 0 0) _ false p.id 4 wx (HoldsB.nil _ _) (Nat.le_refl _) HID.out.1 (by have := HID.out; omega) (by decide) (by decide)).mono fun r w9 ⟨v', h1, h2, h3, h4⟩ => ⟨_, h1, ⟨v', by rw [E4.out.2], by rw [← E4.out.1]; exact ⟨h2, newK (w := wx) (u := .slice none 0 0) (fun k hk => by cases hk) h3 h4⟩⟩, h4⟩
    · refine ⟨_, rfl, ?_⟩
      refine predOp_val (v := .pointer (some ⟨F, 1, none⟩)) ?_ ?_ ?_
      · kernel_rfl
      · simp only [putE]
        go_simp
      · rfl
    · have h5 := h
      have e5 : γ 5 = .pointer (some ⟨F, 1, none⟩) := h5
      have hcell : wx.cell? ⟨F, 1, none⟩ = some (.int .i64 p.at_) := hS.1.cell 1
      refine ⟨_, rfl, ?_⟩
      refine predOp_val (v := .int .i64 p.at_) ?_ ?_ ?_
      · kernel_rfl
      · simp only [putE, e5]
        go_simp
      · rfl
    · have h6 := h
      have e6 : γ 6 = .int .i64 p.at_ := h6
      have hq := hw2
      refine ⟨_, rfl, ?_⟩
      refine predOp_val (v := .int .u64 p.at_) ?_ ?_ ?_
      · kernel_rfl
      · simp only [putE, e6]
        go_simp
      · rfl
    · obtain ⟨h4, h7⟩ := h
      have p4 : ∃ u, (γ 4) = routV u false ∧ HoldsT wx u L3 := h4
      have e7 : γ 7 = .int .u64 p.at_ := h7
      obtain ⟨u, e4, hu⟩ := p4
      refine ⟨_, rfl, Or.inl ⟨rfl, predRun_call (f := 46) (args := #[routV u false, .int .u64 p.at_, .int .i64 (1 : Nat)]) (by simp only [putE, e7]; go_simp) ?_⟩⟩
      exact (rnum_any _ u _ false p.at_ 1 wx hu.1 (Nat.le_refl _) HR.out.2.2.1 (by have := HR.out; omega) (by decide) (by rw [H3.out]; decide)).mono fun r w9 ⟨v', h1, h2, h3, h4⟩ => ⟨_, h1, ⟨v', by rw [E8.out.2], by rw [← E8.out.1]; exact ⟨h2, newK hu.2 h3 h4⟩⟩, h4⟩
    · refine ⟨_, rfl, ?_⟩
      refine predOp_val (v := .pointer (some ⟨F, 2, none⟩)) ?_ ?_ ?_
      · kernel_rfl
      · simp only [putE]
        go_simp
      · rfl
    · have h9 := h
      have e9 : γ 9 = .pointer (some ⟨F, 2, none⟩) := h9
      have hcell : wx.cell? ⟨F, 2, none⟩ = some (.int .i64 p.many) := hS.1.cell 2
      refine ⟨_, rfl, ?_⟩
      refine predOp_val (v := .int .i64 p.many) ?_ ?_ ?_
      · kernel_rfl
      · simp only [putE, e9]
        go_simp
      · rfl
    · have h10 := h
      have e10 : γ 10 = .int .i64 p.many := h10
      have hq := hw3
      refine ⟨_, rfl, ?_⟩
      refine predOp_val (v := .int .u64 p.many) ?_ ?_ ?_
      · kernel_rfl
      · simp only [putE, e10]
        go_simp
      · rfl
    · obtain ⟨h8, h11⟩ := h
      have p8 : ∃ u, (γ 8) = routV u false ∧ HoldsT wx u L4 := h8
      have e11 : γ 11 = .int .u64 p.many := h11
      obtain ⟨u, e8, hu⟩ := p8
      refine ⟨_, rfl, Or.inl ⟨rfl, predRun_call (f := 46) (args := #[routV u false, .int .u64 p.many, .int .i64 (1 : Nat)]) (by simp only [putE, e11]; go_simp) ?_⟩⟩
      exact (rnum_any _ u _ false p.many 1 wx hu.1 (Nat.le_refl _) (by have := HR.out; omega) (by have := HR.out; omega) (by decide) (by rw [H4.out]; decide)).mono fun r w9 ⟨v', h1, h2, h3, h4⟩ => ⟨_, h1, ⟨v', by rw [E12.out.2], by rw [← E12.out.1]; exact ⟨h2, newK hu.2 h3 h4⟩⟩, h4⟩
    · refine ⟨_, rfl, ?_⟩
      refine predOp_val (v := .pointer (some ⟨F, 3, none⟩)) ?_ ?_ ?_
      · kernel_rfl
      · simp only [putE]
        go_simp
      · rfl
    · have h13 := h
      have e13 : γ 13 = .pointer (some ⟨F, 3, none⟩) := h13
      have hcell : wx.cell? ⟨F, 3, none⟩ = some (.slice p.a p.n p.c) := hS.1.cell 3
      refine ⟨_, rfl, ?_⟩
      refine predOp_val (v := .slice p.a p.n p.c) ?_ ?_ ?_
      · kernel_rfl
      · simp only [putE, e13]
        go_simp
      · rfl
    · obtain ⟨h12, h14⟩ := h
      have p12 : ∃ u, (γ 12) = routV u false ∧ HoldsT wx u L5 := h12
      have e14 : γ 14 = .slice p.a p.n p.c := h14
      obtain ⟨u, e12, hu⟩ := p12
      refine ⟨_, rfl, Or.inl ⟨rfl, predRun_call (f := 67) (args := #[routV u false, .slice p.a p.n p.c]) (by simp only [putE, e14]; go_simp) ?_⟩⟩
      exact (roblob_any wx.heap.size u _ L5 tp false wx hu.1 (hS.2.1.mono (Nat.le_of_lt hS.1.lt)) (Nat.le_refl _) (by rw [H5.out]; decide)).mono fun r w9 ⟨v', h1, h2, h3, h4⟩ => ⟨_, h1, ⟨v', by rw [E15.out.2], by rw [← E15.out.1]; exact ⟨h2, newK hu.2 h3 h4⟩⟩, h4⟩
    · have h15 := h
      have p15 : ∃ u, (γ 15) = routV u false ∧ HoldsT wx u PM := h15
      obtain ⟨u, e15, hu⟩ := p15
      refine ⟨_, rfl, ?_⟩
      refine predOp_val (v := u) ?_ ?_ ?_
      · kernel_rfl
      · have hf : (Instr.field 112 (routV u false) 0).run Try.prog wx = .ok u wx := by rfl
        simp only [putE, e15]
        go_simp
      · exact hu
  · intro γ w9 hS h
    have h16 : HoldsT w9 (γ 16) PM := h.2.2.2.2.2.2.2.2.2.2.2.2.2.2.2.2
    simp only [putE, Act.put, List.setIfInBounds_toArray, List.set_cons_zero, List.set_cons_succ]
    have HV := Kp.mk h16
    have HS3 := Kp.mk hS.2.2
    clear h hS h16
    generalize γ 16 = vv at *
    obtain ⟨va, vn, vc, rfl, -⟩ := HV.out.1.slice
    refine wpOps_step rfl rfl ?_
    go_simp
    refine wpOps_step rfl rfl ?_
    go_simp
    refine wpOps_done ?_
    go_wp2_with fail
    exact bodyPost_ret (results_tmp2 rfl _ _ _) rfl ⟨_, rfl, by rw [← HPM.out]; exact HV.out, by rw [← HFe.out]; exact HS3.out⟩
end Go.Proofs.Ytioeaknhcfkfcaa
