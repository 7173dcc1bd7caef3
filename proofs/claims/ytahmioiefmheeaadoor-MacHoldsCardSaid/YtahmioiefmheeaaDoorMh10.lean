/-
  append of bytes to an empty row: the run itself. Whether two rows of bytes, as arrays or as texts, are one.
  The law MacHolds, walked, where the second one is picked.
  The law MacHolds, walked, where the first one is picked.
  The law MacHolds, walked.
  What the listed variable holds gives the walks: the standard's constants. The door's own heap meets the condition.
  Arguments that came in: an array of bytes by value; a slice of numbers of 64 bits.
-/
import Derived.Test.YtahmioiefmheeaaDoorMh09
import Derived.ArgAppend
import Derived.Stop.BytesEq
import Derived.Test.YtahmioiefmheeaaDoorRows
import Derived.ProofKit
import Derived.LaidMore
import Derived.OpenShut
import Derived.Stop.Joined
import Derived.SizedLaws
namespace Go.Proofs.YtahmioiefmheeaaDoor
open Go.RowKit

set_option maxRecDepth 100000 in
theorem app_run (w : World) (g : Nat) (hg : Blk w g (.cells #[] 5)) (M : Nat) (u : Value) (p : List Int) (hp : HoldsB w M u p) (hlen : p.length ≤ 140737488355328) :
    ∃ v' w', (Builtin.append_ #[22, 22] 22 #[.slice (some ⟨g, 0, none⟩) 0 0, u]).run Tryd.prog w = .ok v' w' ∧ Below w.heap.size w w' ∧ HoldsB w' w'.heap.size v' p := by
  obtain ⟨i0, hi, hz0, hz1, hz2⟩ := info_parts info5
  obtain ⟨ad, m, cap, rfl, hm⟩ := hp.slice
  by_cases h0 : p = []
  · subst h0
    have hm0 : m = 0 := by simpa using hm
    subst hm0
    have hh : HoldsB w w.heap.size (.slice (some ⟨g, 0, none⟩) 0 0) [] := ⟨_, 0, rfl, Nat.le_refl _, by unfold maxLen; omega, (fun e => by cases e), (fun x hx h => by simp at h), (fun x i hx hi => by simp at hi), Bytes.nil⟩
    refine ⟨.slice (some ⟨g, 0, none⟩) 0 0, w, ?_, Below.refl _ _, hh⟩
    cases ad with
    | none =>
      obtain ⟨_, _, e, _, _, hc, _⟩ := hp
      simp only [Value.slice.injEq] at e
      have := hc e.1.symm
      rw [e.2.2, this]
      exact run_append_owned_none (w := w) g 22 22 5 i0 1 Tryd.underlying22 hi _ 0 [] ⟨rfl, .inr ⟨g, 0, #[], rfl, Nat.le_refl _, hg, Nat.le_refl _, by unfold maxLen; omega, rfl, rfl⟩⟩
    | some ad =>
      have hf := run_firstCells_some (P := Tryd.prog) w i0.size 0 ad 0 cap [] (by simp) (by simp)
      simp [Builtin.append_, run_underlying Tryd.underlying22, sizeOf, typeInfo, hi, Builtin.lenOf, hf, storeCells]
  · have hpos : 0 < p.length := by cases p with | nil => exact absurd rfl h0 | cons => simp
    cases ad with
    | none =>
      obtain ⟨_, _, e, hle, _, hc, _⟩ := hp
      simp only [Value.slice.injEq] at e
      have := hc e.1.symm
      omega
    | some ad =>
      obtain ⟨v', w', hrun, r1, r2⟩ := run_append_arg_grows (P := Tryd.prog) w 22 22 5 i0 (.int .u8 0) 1 1 Tryd.underlying22 hi hz0 hz1 hz2 rfl (by decide) ⟨g, 0, none⟩ 0 0 [] rfl (fun j u h => by simp at h) ad m cap (bv p) (by rw [bv_len]; omega) hp.news (by omega) (by unfold maxLen; omega) (by omega)
      refine ⟨v', w', hrun, ⟨r2.os, r2.tape, r2.output, r2.size, fun k hk => r2.block k hk (by simp)⟩, ?_⟩
      rw [Nat.zero_add, hm, List.nil_append] at r1
      exact HoldsB.ofRow hp.bytes r1
theorem exec_append {o : Oper} {a : Act} {w w' : World} {s x : Operand} {u v v' : Value} (ho : o.op = .call { callee := .builtin .append, args := #[s, x], argTypes := #[22, 22] })
    (hs : a.eval s = v) (hx : a.eval x = u) (hr : (Builtin.append_ #[22, 22] o.type #[v, u]).run Tryd.prog w = .ok v' w') : (execOp a.eval o).run Tryd.prog w = .ok (.value v') w' := by
  unfold execOp
  simp only [ho, resolve, invoke, builtin, Sem.run_bind, Sem.run_pure, Result.andThen_ok, List.map_toArray, List.map_cons, List.map_nil, hs, hx, hr]
theorem bytes_inj {p q : List Int} (hp : Bytes p) (hq : Bytes q) : (p.map fun n => UInt8.ofNat n.toNat) = (q.map fun n => UInt8.ofNat n.toNat) ↔ p = q := by
  refine ⟨fun h => ?_, fun h => by rw [h]⟩
  induction p generalizing q with
  | nil => cases q with
    | nil => rfl
    | cons y r => simp at h
  | cons x p ih => cases q with
    | nil => simp at h
    | cons y r =>
      simp only [List.map_cons, List.cons.injEq] at h
      have hx := hp x (by simp)
      have hy := hq y (by simp)
      have h1 := congrArg UInt8.toNat h.1
      rw [UInt8.toNat_ofNat', UInt8.toNat_ofNat'] at h1
      have e : x = y := by omega
      rw [e, ih (fun z hz => hp z (List.mem_cons_of_mem _ hz)) (fun z hz => hq z (List.mem_cons_of_mem _ hz)) h.2]
theorem text_eq {p q : List Int} (hp : Bytes p) (hq : Bytes q) : ((strOfNums p).toList == (strOfNums q).toList) = decide (p = q) := by
  rw [Bool.eq_iff_iff, beq_iff_eq, decide_eq_true_iff]
  refine ⟨fun h => (bytes_inj hp hq).1 ?_, fun h => by rw [h]⟩
  have h2 : (strOfNums p).data.toList = (strOfNums q).data.toList := by
    rw [ByteArray.toList_eq, ByteArray.toList_eq] at h
    exact h
  exact h2
theorem eq32 {p q : List Int} (hp : Bytes p) (hq : Bytes q) (h : p.length = 16) (g : q.length = 16) (w : World) : (binOp .eql 32 (dgV p) (dgV q)).run Tryd.prog w = .ok (.bool (decide (p = q))) w := by
  have := run_equalIn_bytes (P := Tryd.prog) w 9998 32 5 16 Tryd.underlying32 Tryd.underlying5 size5 (p.map fun n => UInt8.ofNat n.toNat) (q.map fun n => UInt8.ofNat n.toNat) (by simp [h]) (by simp [g])
  rw [bv_cells hp, bv_cells hq] at this
  have e : ((p.map fun n => UInt8.ofNat n.toNat) == (q.map fun n => UInt8.ofNat n.toNat)) = decide (p = q) := by
    rw [Bool.eq_iff_iff, beq_iff_eq, decide_eq_true_iff]
    exact bytes_inj hp hq
  rw [e] at this
  rw [run_eql_struct, this]
  rfl
theorem eqg32 (p q : List Int) (x y : Operand) (w : World) : (eqGuard .eql 32 x y (dgV p) (dgV q)).run Tryd.prog w = .ok () w := by kernel_rfl
end Go.Proofs.YtahmioiefmheeaaDoor

namespace Go.Proofs.YtahmioiefmheeaaDoor
open Go.RowKit

set_option maxRecDepth 100000 in
set_option maxHeartbeats 4000000 in
theorem macHolds_true (a0 : Option Addr) (len0 cap0 : Nat) (z0 : List Int) (a1 : Option Addr) (len1 cap1 : Nat) (z1 : List Int) (x2 x3 : List Int) (w : World) (w0 : HoldsB w w.heap.size (.slice a0 len0 cap0) z0) (g0 : len0 ≤ 140737488351232) (w1 : HoldsB w w.heap.size (.slice a1 len1 cap1) z1) (l2 : x2.length = 16) (b2 : Bytes x2) (l3 : x3.length = 16) (b3 : Bytes x3) (hk : KonIs w) :
    Calls Tryd.prog 6 #[.slice a0 len0 cap0, .slice a1 len1 cap1, dgV x2, dgV x3, .bool true] w fun e w' => e = .returned (.bool true) ∧ Below w.heap.size w w' := by
  have hl0 : z0.length ≤ 140737488355328 := by
    obtain ⟨a, n, c, e, hn⟩ := w0.slice
    simp only [Value.slice.injEq] at e
    omega
  have HL0 := Kp.mk hl0
  have HTX := Kp.mk (text_eq w0.bytes w1.bytes)
  have HE32 := Kp.mk (fun w => eq32 b2 b3 l2 l3 w)
  have HE33 : Kp (∀ w, (binOp .eql 33 (dgV x3) (dgV x3)).run Tryd.prog w = .ok (.bool true) w) := ⟨fun w => eql50 (p := x3) (by assumption) (by assumption) w⟩
  have HXT : Kp ((x3).length = 16) := ⟨by assumption⟩
  have H0 := Kp.mk w0
  have H1 := Kp.mk w1
  have HX2 := Kp.mk l2
  have HB2 := Kp.mk b2
  have HX3 := Kp.mk l3
  have HB3 := Kp.mk b3
  have HK := Kp.mk hk
  clear hl0 w0 g0 w1 l2 b2 l3 b3 hk
  have HC2 := Kp.mk (cells49 HX2.out)
  have HC3 := Kp.mk (cells49 HX3.out)
  have HZ3 : Kp ((kv .u8 x2).toArray.size = (kv .u8 x3).toArray.size) := ⟨by rw [kv_size, kv_size, HX2.out, HX3.out]⟩
  have HZ2 : Kp ((kv .u8 (fill 16 [])).toArray.size = (kv .u8 x2).toArray.size) := ⟨size50 HX2.out⟩
  go_enter Tryd.func6, Tryd.ntmps6
  go_wp2_with (first
    | (refine wpList_load_row rfl 32 (.tmp 7) rfl w.heap.size rfl 32 (kv .u8 x2).toArray (0, 0) _ (Blk.old (Blk.newAt (w := w) _ rfl) _) Tryd.underlying32 rfl HC2.out ?_)
    | (refine wpList_load_row rfl 32 (.tmp 8) rfl (w.heap.size + 1) rfl 32 (kv .u8 x3).toArray (0, 0) _ Q2.out Tryd.underlying32 rfl HC3.out ?_)
    | (refine wpList_store_row rfl 32 (.tmp 11) (.tmp 14) rfl (w.heap.size + 1 + 1) (kv .u8 x3).toArray rfl rfl 32 _ Q3.out HC3.out HZ3.out (kv_all _ _) ?_
       refine wpl_world (fun W => Row W w.heap.size 32 .u8 x2 ∧ Row W (w.heap.size + 1) 32 .u8 x3 ∧ Row W (w.heap.size + 1 + 1) 32 .u8 x3 ∧ Below w.heap.size w W) ⟨?_, ?_, ?_, ?_⟩ ?_
       · exact Row.otherRow Q1.out (by omega) _
       · exact Row.otherRow Q2.out (by omega) _
       · exact Row.setRow Q3.out _
       · exact Below.row Q4.out (by omega) _
       clear Q1 Q2 Q3 Q4
       rintro W2 ⟨q1, q2, q3, q4⟩
       have P1 := Kp.mk q1
       have P2 := Kp.mk q2
       have P3 := Kp.mk q3
       have P4 := Kp.mk q4
       clear q1 q2 q3 q4)
    | (refine wpList_store_row rfl 32 (.tmp 11) (.tmp 12) rfl (w.heap.size + 1 + 1) (kv .u8 x2).toArray rfl rfl 32 _ (Blk.newAt _ (by simp)) HC2.out HZ2.out (kv_all _ _) ?_
       refine wpl_world (fun W => Row W w.heap.size 32 .u8 x2 ∧ Row W (w.heap.size + 1) 32 .u8 x3 ∧ Row W (w.heap.size + 1 + 1) 32 .u8 x2 ∧ Below w.heap.size w W) ⟨?_, ?_, ?_, ?_⟩ ?_
       · exact Row.otherRow (Row.alloc (Row.alloc (Blk.newAt _ rfl) _) _) (by omega) _
       · exact Row.otherRow (Row.alloc (Blk.newAt _ (by simp)) _) (by omega) _
       · exact Row.setRow (k := .u8) (l := fill 16 []) (Blk.newAt _ (by simp)) _
       · exact Below.row (more (more (more (Below.refl _ _) _) _) _) (by omega) _
       rintro W1 ⟨q1, q2, q3, q4⟩
       have Q1 := Kp.mk q1
       have Q2 := Kp.mk q2
       have Q3 := Kp.mk q3
       have Q4 := Kp.mk q4
       clear q1 q2 q3 q4))
  obtain ⟨A, hA⟩ : ∃ A, A = w.heap.size := ⟨_, rfl⟩
  have HA := Kp.mk hA
  rw [← hA] at P1 P2 P3 P4
  rw [← hA]
  clear hA
  refine wp_region_pred (fun w' => Row w' A 32 .u8 x2 ∧ Row w' (A + 1) 32 .u8 x3 ∧ Row w' (A + 1 + 1) 32 .u8 x3 ∧ Below w.heap.size w w') [0, 1, 2, 3, 4, 5, 6, 7, 8, 9, 10, 11, 12, 13, 14, 15, 16, 17, 18, 19, 20, 21, 22, 23, 24, 25, 26, 27, 28, 29, 30, 31, 32, 33, 34, 35] [36]
    (fun i w' v => match i with
      | 2 | 5 | 13 | 15 => v = .slice a0 len0 cap0
      | 3 | 7 => v = .slice a1 len1 cap1
      | 4 | 9 => v = .bool (decide (z0 = z1))
      | 6 => v = .string (strOfNums z0)
      | 8 => v = .string (strOfNums z1)
      | 20 | 23 | 30 => v = dgV x2
      | 21 | 24 | 31 | 32 | 33 => v = dgV x3
      | 22 | 25 => v = .bool (decide (x2 = x3))
      | 14 => ∃ g, v = .slice (some ⟨g, 0, none⟩) 0 0 ∧ Blk w' g (.cells #[] 5)
      | 16 => HoldsB w' w'.heap.size v z0
      | _ => v = .bool true)
    [[], [(0, some 15)], [(1, some 16)], [(1, some 16)], [(1, some 16), (2, some 17), (3, some 18)], [(1, some 16)], [(1, some 16), (5, some 20)], [(1, some 16)], [(1, some 16), (7, some 22)], [(1, some 16), (6, some 21), (8, some 23)], [(1, some 16), (4, some 19), (9, some 24)], [(1, some 16), (10, some 25)], [(4, some 19), (11, some 26)], [(12, some 27)], [(12, some 27)], [(12, some 27)], [(12, some 27), (14, some 29), (15, some 30)], [(12, some 27), (13, some 28), (16, some 31)], [(12, some 27), (17, some 32)], [(17, some 32), (18, some 33)], [(19, some 34)], [(19, some 34)], [(19, some 34), (20, some 35), (21, some 36)], [(19, some 34)], [(19, some 34)], [(19, some 34), (23, some 38), (24, some 39)], [(19, some 34), (22, some 37), (25, some 40)], [(19, some 34), (26, some 41)], [(22, some 37), (27, some 42)], [(28, some 43)], [(28, some 43)], [(28, some 43)], [(28, some 43), (29, some 44), (30, some 45), (31, some 46)], [(28, some 43)], [(28, some 43), (32, some 47), (33, some 48)], [(28, some 43), (34, some 49)]]
    [(0, some 15), (1, some 16), (2, some 17), (3, some 18), (4, some 19), (5, some 20), (6, some 21), (7, some 22), (8, some 23), (9, some 24), (10, some 25), (11, some 26), (12, some 27), (13, some 28), (14, some 29), (15, some 30), (16, some 31), (17, some 32), (18, some 33), (19, some 34), (20, some 35), (21, some 36), (22, some 37), (23, some 38), (24, some 39), (25, some 40), (26, some 41), (27, some 42), (28, some 43), (29, some 44), (30, some 45), (31, some 46), (32, some 47), (33, some 48), (34, some 49), (35, some 50)]
    (by kernel_rfl) (by kernel_rfl) (by kernel_rfl) (by kernel_rfl) (by kernel_rfl) (by kernel_rfl) (by decide) (by decide) (fun w1 w2 h hb => ⟨h.1.keep hb, h.2.1.keep hb, h.2.2.1.keep hb, h.2.2.2.trans (hb.mono (by have := h.1.lt; have := HA.out; omega))⟩) ?_ ⟨P1.out.drew, P2.out.drew, P3.out.drew, by rw [HA.out] at P4; exact P4.out.drew⟩ ?_ ?_
  · intro i w1 w2 v h hb
    by_cases h14 : i = 14
    · subst h14
      obtain ⟨g, e, hg⟩ := h
      exact ⟨g, e, hg.keep hb⟩
    by_cases h16 : i = 16
    · subst h16
      exact (HoldsB.keep h hb).mono hb.size
    match i, h14, h16, h with
    | 0, _, _, h => exact h
    | 1, _, _, h => exact h
    | 2, _, _, h => exact h
    | 3, _, _, h => exact h
    | 4, _, _, h => exact h
    | 5, _, _, h => exact h
    | 6, _, _, h => exact h
    | 7, _, _, h => exact h
    | 8, _, _, h => exact h
    | 9, _, _, h => exact h
    | 10, _, _, h => exact h
    | 11, _, _, h => exact h
    | 12, _, _, h => exact h
    | 13, _, _, h => exact h
    | 15, _, _, h => exact h
    | 17, _, _, h => exact h
    | 18, _, _, h => exact h
    | 19, _, _, h => exact h
    | 20, _, _, h => exact h
    | 21, _, _, h => exact h
    | 22, _, _, h => exact h
    | 23, _, _, h => exact h
    | 24, _, _, h => exact h
    | 25, _, _, h => exact h
    | 26, _, _, h => exact h
    | 27, _, _, h => exact h
    | 28, _, _, h => exact h
    | 29, _, _, h => exact h
    | 30, _, _, h => exact h
    | 31, _, _, h => exact h
    | 32, _, _, h => exact h
    | 33, _, _, h => exact h
    | 34, _, _, h => exact h
    | 35, _, _, h => exact h
    | 14, h, _, _ => exact absurd rfl h
    | 16, _, h, _ => exact absurd rfl h
    | _ + 36, _, _, h => exact h
  · refine ⟨fun γ wx hS h => ?_, fun γ wx hS h => ?_, fun γ wx hS h => ?_, fun γ wx hS h => ?_, fun γ wx hS h => ?_, fun γ wx hS h => ?_, fun γ wx hS h => ?_, fun γ wx hS h => ?_, fun γ wx hS h => ?_, fun γ wx hS h => ?_, fun γ wx hS h => ?_, fun γ wx hS h => ?_, fun γ wx hS h => ?_, fun γ wx hS h => ?_, fun γ wx hS h => ?_, fun γ wx hS h => ?_, fun γ wx hS h => ?_, fun γ wx hS h => ?_, fun γ wx hS h => ?_, fun γ wx hS h => ?_, fun γ wx hS h => ?_, fun γ wx hS h => ?_, fun γ wx hS h => ?_, fun γ wx hS h => ?_, fun γ wx hS h => ?_, fun γ wx hS h => ?_, fun γ wx hS h => ?_, fun γ wx hS h => ?_, fun γ wx hS h => ?_, fun γ wx hS h => ?_, fun γ wx hS h => ?_, fun γ wx hS h => ?_, fun γ wx hS h => ?_, fun γ wx hS h => ?_, fun γ wx hS h => ?_, fun γ wx hS h => ?_, trivial⟩
    · refine ⟨_, rfl, Or.inl ⟨rfl, predRun_call (f := 23) (args := #[]) (by simp only [putE]; go_simp) ?_⟩⟩
      exact (awake5 wx (HK.out.keep hS.2.2.2)).mono fun e w2 ⟨h1, h2⟩ => ⟨_, h1, rfl, h2⟩
    · have h0 := h
      have e0 : γ 0 = .bool true := h0
      refine ⟨_, rfl, Or.inl ⟨(by simp only [putE, e0]; rfl), predRun_value (v := .bool true) (by simp only [putE, e0]; first | rfl | (go_simp; done) | (go_simp; with_reducible rfl)) rfl⟩⟩
    · have h1 := h
      have e1 : γ 1 = .bool true := h1
      refine ⟨_, rfl, Or.inl ⟨(by simp only [putE, e1]; rfl), predRun_value (v := .slice a0 len0 cap0) (by simp only [putE, e1]; first | rfl | (go_simp; done) | (go_simp; with_reducible rfl)) rfl⟩⟩
    · have h1 := h
      have e1 : γ 1 = .bool true := h1
      refine ⟨_, rfl, Or.inl ⟨(by simp only [putE, e1]; rfl), predRun_value (v := .slice a1 len1 cap1) (by simp only [putE, e1]; first | rfl | (go_simp; done) | (go_simp; with_reducible rfl)) rfl⟩⟩
    · obtain ⟨h1, h2, h3⟩ := h
      have e1 : γ 1 = .bool true := h1
      have e2 : γ 2 = .slice a0 len0 cap0 := h2
      have e3 : γ 3 = .slice a1 len1 cap1 := h3
      refine ⟨_, rfl, Or.inl ⟨(by simp only [putE, e1, e2, e3]; rfl), predRun_call (f := 28) (args := #[.slice a0 len0 cap0, .slice a1 len1 cap1]) (by simp only [putE, e1, e2, e3]; go_simp) ?_⟩⟩
      exact (equal_any _ _ _ _ z0 z1 wx (H0.out.keep hS.2.2.2) (H1.out.keep hS.2.2.2)).mono fun e w2 ⟨h1, h2⟩ => ⟨_, h1, rfl, h2⟩
    · have h1 := h
      have e1 : γ 1 = .bool true := h1
      refine ⟨_, rfl, Or.inl ⟨(by simp only [putE, e1]; rfl), predRun_value (v := .slice a0 len0 cap0) (by simp only [putE, e1]; first | rfl | (go_simp; done) | (go_simp; with_reducible rfl)) rfl⟩⟩
    · obtain ⟨h1, h5⟩ := h
      have e1 : γ 1 = .bool true := h1
      have e5 : γ 5 = .slice a0 len0 cap0 := h5
      refine ⟨_, rfl, Or.inl ⟨(by simp only [putE, e1, e5]; rfl), predRun_value (v := .string (strOfNums z0)) (by simp only [putE, e1, e5]; have ht := (H0.out.keep hS.2.2.2).text; first | rfl | (go_simp; done) | (go_simp; with_reducible rfl)) rfl⟩⟩
    · have h1 := h
      have e1 : γ 1 = .bool true := h1
      refine ⟨_, rfl, Or.inl ⟨(by simp only [putE, e1]; rfl), predRun_value (v := .slice a1 len1 cap1) (by simp only [putE, e1]; first | rfl | (go_simp; done) | (go_simp; with_reducible rfl)) rfl⟩⟩
    · obtain ⟨h1, h7⟩ := h
      have e1 : γ 1 = .bool true := h1
      have e7 : γ 7 = .slice a1 len1 cap1 := h7
      refine ⟨_, rfl, Or.inl ⟨(by simp only [putE, e1, e7]; rfl), predRun_value (v := .string (strOfNums z1)) (by simp only [putE, e1, e7]; have ht := (H1.out.keep hS.2.2.2).text; first | rfl | (go_simp; done) | (go_simp; with_reducible rfl)) rfl⟩⟩
    · obtain ⟨h1, h6, h8⟩ := h
      have e1 : γ 1 = .bool true := h1
      have e6 : γ 6 = .string (strOfNums z0) := h6
      have e8 : γ 8 = .string (strOfNums z1) := h8
      refine ⟨_, rfl, Or.inl ⟨(by simp only [putE, e1, e6, e8]; rfl), predRun_value (v := .bool ((strOfNums z0).toList == (strOfNums z1).toList)) (by simp only [putE, e1, e6, e8]; generalize strOfNums z0 = s0; generalize strOfNums z1 = s1; first | (go_simp; done) | (go_simp; rfl)) ?_⟩⟩
      exact congrArg Value.bool HTX.out
    · obtain ⟨h1, h4, h9⟩ := h
      have e1 : γ 1 = .bool true := h1
      have e4 : γ 4 = .bool (decide (z0 = z1)) := h4
      have e9 : γ 9 = .bool (decide (z0 = z1)) := h9
      refine ⟨_, rfl, Or.inl ⟨(by simp only [putE, e1, e4, e9]; rfl), predRun_value (v := .bool true) (by simp only [putE, e1, e4, e9]; generalize decide (z0 = z1) = bb; cases bb <;> first | rfl | (go_simp; done) | (go_simp; with_reducible rfl)) rfl⟩⟩
    · obtain ⟨h1, h10⟩ := h
      have e1 : γ 1 = .bool true := h1
      have e10 : γ 10 = .bool true := h10
      refine ⟨_, rfl, Or.inl ⟨(by simp only [putE, e1, e10]; rfl), predRun_value (v := .bool true) (by simp only [putE, e1, e10]; first | rfl | (go_simp; done) | (go_simp; with_reducible rfl)) rfl⟩⟩
    · obtain ⟨h4, h11⟩ := h
      have e4 : γ 4 = .bool (decide (z0 = z1)) := h4
      have e11 : γ 11 = .bool true := h11
      refine ⟨_, rfl, Or.inl ⟨(by simp only [putE, e4, e11]; rfl), predRun_value (v := .bool true) (by simp only [putE, e4, e11]; first | rfl | (go_simp; done) | (go_simp; with_reducible rfl)) rfl⟩⟩
    · have h12 := h
      have e12 : γ 12 = .bool true := h12
      refine ⟨_, rfl, Or.inl ⟨(by simp only [putE, e12]; rfl), predRun_value (v := .slice a0 len0 cap0) (by simp only [putE, e12]; first | rfl | (go_simp; done) | (go_simp; with_reducible rfl)) rfl⟩⟩
    · have h12 := h
      have e12 : γ 12 = .bool true := h12
      refine ⟨_, rfl, Or.inl ⟨(by simp only [putE, e12]; rfl), predRun_new (w' := wx.alloc (.cells #[] 5)) (v := .slice (some ⟨wx.heap.size, 0, none⟩) 0 0) (by simp only [putE, e12]; go_simp) (more (Below.refl _ _) _) ⟨_, rfl, Blk.new _ _⟩⟩⟩
    · have h12 := h
      have e12 : γ 12 = .bool true := h12
      refine ⟨_, rfl, Or.inl ⟨(by simp only [putE, e12]; rfl), predRun_value (v := .slice a0 len0 cap0) (by simp only [putE, e12]; first | rfl | (go_simp; done) | (go_simp; with_reducible rfl)) rfl⟩⟩
    · obtain ⟨h12, h14, h15⟩ := h
      have e12 : γ 12 = .bool true := h12
      have e15 : γ 15 = .slice a0 len0 cap0 := h15
      obtain ⟨g, e14, hbg⟩ : ∃ g, γ 14 = .slice (some ⟨g, 0, none⟩) 0 0 ∧ Blk wx g (.cells #[] 5) := h14
      obtain ⟨v', w', hr, hb, hh⟩ := app_run wx g hbg _ _ z0 (H0.out.keep hS.2.2.2) HL0.out
      refine ⟨_, rfl, Or.inl ⟨(by simp only [putE, e12, e15]; rfl), predRun_new (w' := w') (v := v') ?_ hb hh⟩⟩
      exact exec_append (s := .tmp 29) (x := .tmp 30) rfl (by exact e14) (by exact e15) hr
    · obtain ⟨h12, h13, h16⟩ := h
      have e12 : γ 12 = .bool true := h12
      have e13 : γ 13 = .slice a0 len0 cap0 := h13
      have h16' : HoldsB wx wx.heap.size (γ 16) z0 := h16
      refine ⟨_, rfl, Or.inl ⟨(by simp only [putE, e12, e13]; rfl), predRun_call (f := 28) (args := #[.slice a0 len0 cap0, γ 16]) (by simp only [putE, e12, e13]; go_simp) ?_⟩⟩
      exact (equal_any _ _ _ _ z0 z0 wx (H0.out.keep hS.2.2.2) h16').mono fun e w2 ⟨h1, h2⟩ => ⟨_, h1, by simp, h2⟩
    · obtain ⟨h12, h17⟩ := h
      have e12 : γ 12 = .bool true := h12
      have e17 : γ 17 = .bool true := h17
      refine ⟨_, rfl, Or.inl ⟨(by simp only [putE, e12, e17]; rfl), predRun_value (v := .bool true) (by simp only [putE, e12, e17]; first | rfl | (go_simp; done) | (go_simp; with_reducible rfl)) rfl⟩⟩
    · obtain ⟨h17, h18⟩ := h
      have e17 : γ 17 = .bool true := h17
      have e18 : γ 18 = .bool true := h18
      refine ⟨_, rfl, Or.inl ⟨(by simp only [putE, e17, e18]; rfl), predRun_value (v := .bool true) (by simp only [putE, e17, e18]; first | rfl | (go_simp; done) | (go_simp; with_reducible rfl)) rfl⟩⟩
    · have h19 := h
      have e19 : γ 19 = .bool true := h19
      refine ⟨_, rfl, Or.inl ⟨(by simp only [putE, e19]; rfl), predRun_value (exec_load_blk 32 (.tmp 7) rfl (A) rfl 32 _ (0, 0) _ hS.1 Tryd.underlying32 rfl (cells49 HX2.out)) rfl⟩⟩
    · have h19 := h
      have e19 : γ 19 = .bool true := h19
      refine ⟨_, rfl, Or.inl ⟨(by simp only [putE, e19]; rfl), predRun_value (exec_load_blk 32 (.tmp 8) rfl (A + 1) rfl 32 _ (0, 0) _ hS.2.1 Tryd.underlying32 rfl (cells49 HX3.out)) rfl⟩⟩
    · obtain ⟨h19, h20, h21⟩ := h
      have e19 : γ 19 = .bool true := h19
      have e20 : γ 20 = dgV x2 := h20
      have e21 : γ 21 = dgV x3 := h21
      refine ⟨_, rfl, Or.inl ⟨(by simp only [putE, e19, e20, e21]; rfl), predRun_call (f := 29) (args := #[dgV x2, dgV x3]) (by simp only [putE, e19, e20, e21]; go_simp) ?_⟩⟩
      exact (same_any x2 x3 wx HX2.out HB2.out HX3.out HB3.out).mono fun e w2 ⟨h1, h2⟩ => ⟨_, h1, rfl, h2⟩
    · have h19 := h
      have e19 : γ 19 = .bool true := h19
      refine ⟨_, rfl, Or.inl ⟨(by simp only [putE, e19]; rfl), predRun_value (exec_load_blk 32 (.tmp 7) rfl (A) rfl 32 _ (0, 0) _ hS.1 Tryd.underlying32 rfl (cells49 HX2.out)) rfl⟩⟩
    · have h19 := h
      have e19 : γ 19 = .bool true := h19
      refine ⟨_, rfl, Or.inl ⟨(by simp only [putE, e19]; rfl), predRun_value (exec_load_blk 32 (.tmp 8) rfl (A + 1) rfl 32 _ (0, 0) _ hS.2.1 Tryd.underlying32 rfl (cells49 HX3.out)) rfl⟩⟩
    · obtain ⟨h19, h23, h24⟩ := h
      have e19 : γ 19 = .bool true := h19
      have e23 : γ 23 = dgV x2 := h23
      have e24 : γ 24 = dgV x3 := h24
      refine ⟨_, rfl, Or.inl ⟨(by simp only [putE, e19, e23, e24]; rfl), predRun_value (v := .bool (decide (x2 = x3))) (by simp only [putE, e19, e23, e24]; have hq := HE32.out; have hg := eqg32; first | rfl | (go_simp; done) | (go_simp; with_reducible rfl)) rfl⟩⟩
    · obtain ⟨h19, h22, h25⟩ := h
      have e19 : γ 19 = .bool true := h19
      have e22 : γ 22 = .bool (decide (x2 = x3)) := h22
      have e25 : γ 25 = .bool (decide (x2 = x3)) := h25
      refine ⟨_, rfl, Or.inl ⟨(by simp only [putE, e19, e22, e25]; rfl), predRun_value (v := .bool true) (by simp only [putE, e19, e22, e25]; generalize decide (x2 = x3) = bb; cases bb <;> first | rfl | (go_simp; done) | (go_simp; with_reducible rfl)) rfl⟩⟩
    · obtain ⟨h19, h26⟩ := h
      have e19 : γ 19 = .bool true := h19
      have e26 : γ 26 = .bool true := h26
      refine ⟨_, rfl, Or.inl ⟨(by simp only [putE, e19, e26]; rfl), predRun_value (v := .bool true) (by simp only [putE, e19, e26]; first | rfl | (go_simp; done) | (go_simp; with_reducible rfl)) rfl⟩⟩
    · obtain ⟨h22, h27⟩ := h
      have e22 : γ 22 = .bool (decide (x2 = x3)) := h22
      have e27 : γ 27 = .bool true := h27
      refine ⟨_, rfl, Or.inl ⟨(by simp only [putE, e22, e27]; rfl), predRun_value (v := .bool true) (by simp only [putE, e22, e27]; first | rfl | (go_simp; done) | (go_simp; with_reducible rfl)) rfl⟩⟩
    · have h28 := h
      have e28 : γ 28 = .bool true := h28
      refine ⟨_, rfl, Or.inl ⟨(by simp only [putE, e28]; rfl), predRun_value (v := .bool true) (by simp only [putE, e28]; first | rfl | (go_simp; done) | (go_simp; with_reducible rfl)) rfl⟩⟩
    · have h28 := h
      have e28 : γ 28 = .bool true := h28
      refine ⟨_, rfl, Or.inl ⟨(by simp only [putE, e28]; rfl), predRun_value (exec_load_blk 32 (.tmp 7) rfl (A) rfl 32 _ (0, 0) _ hS.1 Tryd.underlying32 rfl (cells49 HX2.out)) rfl⟩⟩
    · have h28 := h
      have e28 : γ 28 = .bool true := h28
      refine ⟨_, rfl, Or.inl ⟨(by simp only [putE, e28]; rfl), predRun_value (exec_load_blk 32 (.tmp 8) rfl (A + 1) rfl 32 _ (0, 0) _ hS.2.1 Tryd.underlying32 rfl (cells49 HX3.out)) rfl⟩⟩
    · obtain ⟨h28, h29, h30, h31⟩ := h
      have e28 : γ 28 = .bool true := h28
      have e29 : γ 29 = .bool true := h29
      have e30 : γ 30 = dgV x2 := h30
      have e31 : γ 31 = dgV x3 := h31
      refine ⟨_, rfl, Or.inl ⟨(by simp only [putE, e28, e29, e30, e31]; rfl), predRun_call (f := 30) (args := #[.bool true, dgV x2, dgV x3]) (by simp only [putE, e28, e29, e30, e31]; go_simp) ?_⟩⟩
      exact (pick_true x2 x3 wx HX2.out HB2.out HX3.out HB3.out).mono fun e w2 ⟨h1, h2⟩ => ⟨_, h1, rfl, h2⟩
    · have h28 := h
      have e28 : γ 28 = .bool true := h28
      refine ⟨_, rfl, Or.inl ⟨(by simp only [putE, e28]; rfl), predRun_value (exec_load_blk 32 (.tmp 11) rfl (A + 1 + 1) rfl 32 _ (0, 0) _ hS.2.2.1 Tryd.underlying32 rfl (cells49 HXT.out)) rfl⟩⟩
    · obtain ⟨h28, h32, h33⟩ := h
      have e28 : γ 28 = .bool true := h28
      have e32 : γ 32 = dgV x3 := h32
      have e33 : γ 33 = dgV x3 := h33
      refine ⟨_, rfl, Or.inl ⟨(by simp only [putE, e28, e32, e33]; rfl), predRun_value (v := .bool true) (by simp only [putE, e28, e32, e33]; have hq := HE33.out; have hg := eqg50; first | rfl | (go_simp; done) | (go_simp; with_reducible rfl)) rfl⟩⟩
    · obtain ⟨h28, h34⟩ := h
      have e28 : γ 28 = .bool true := h28
      have e34 : γ 34 = .bool true := h34
      refine ⟨_, rfl, Or.inl ⟨(by simp only [putE, e28, e34]; rfl), predRun_value (v := .bool true) (by simp only [putE, e28, e34]; first | rfl | (go_simp; done) | (go_simp; with_reducible rfl)) rfl⟩⟩
  · intro γ w9 hS h
    have e35 : γ 35 = .bool true := h.2.2.2.2.2.2.2.2.2.2.2.2.2.2.2.2.2.2.2.2.2.2.2.2.2.2.2.2.2.2.2.2.2.2.2
    simp only [putE, Act.put, List.setIfInBounds_toArray, List.set_cons_zero, List.set_cons_succ]
    rw [e35]
    have HB9 := Kp.mk hS.2.2.2
    clear h hS e35
    refine wpOps_step rfl rfl ?_
    refine wp_assign_end rfl rfl ?_
    refine wpOps_done ?_
    go_wp2_with fail
    go_ret
    exact ⟨rfl, HB9.out⟩
end Go.Proofs.YtahmioiefmheeaaDoor

namespace Go.Proofs.YtahmioiefmheeaaDoor
open Go.RowKit

set_option maxRecDepth 100000 in
set_option maxHeartbeats 4000000 in
theorem macHolds_false (a0 : Option Addr) (len0 cap0 : Nat) (z0 : List Int) (a1 : Option Addr) (len1 cap1 : Nat) (z1 : List Int) (x2 x3 : List Int) (w : World) (w0 : HoldsB w w.heap.size (.slice a0 len0 cap0) z0) (g0 : len0 ≤ 140737488351232) (w1 : HoldsB w w.heap.size (.slice a1 len1 cap1) z1) (l2 : x2.length = 16) (b2 : Bytes x2) (l3 : x3.length = 16) (b3 : Bytes x3) (hk : KonIs w) :
    Calls Tryd.prog 6 #[.slice a0 len0 cap0, .slice a1 len1 cap1, dgV x2, dgV x3, .bool false] w fun e w' => e = .returned (.bool true) ∧ Below w.heap.size w w' := by
  have hl0 : z0.length ≤ 140737488355328 := by
    obtain ⟨a, n, c, e, hn⟩ := w0.slice
    simp only [Value.slice.injEq] at e
    omega
  have HL0 := Kp.mk hl0
  have HTX := Kp.mk (text_eq w0.bytes w1.bytes)
  have HE32 := Kp.mk (fun w => eq32 b2 b3 l2 l3 w)
  have HE33 : Kp (∀ w, (binOp .eql 33 (dgV x2) (dgV x2)).run Tryd.prog w = .ok (.bool true) w) := ⟨fun w => eql50 (p := x2) (by assumption) (by assumption) w⟩
  have HXT : Kp ((x2).length = 16) := ⟨by assumption⟩
  have H0 := Kp.mk w0
  have H1 := Kp.mk w1
  have HX2 := Kp.mk l2
  have HB2 := Kp.mk b2
  have HX3 := Kp.mk l3
  have HB3 := Kp.mk b3
  have HK := Kp.mk hk
  clear hl0 w0 g0 w1 l2 b2 l3 b3 hk
  have HC2 := Kp.mk (cells49 HX2.out)
  have HC3 := Kp.mk (cells49 HX3.out)
  have HZ3 : Kp ((kv .u8 x2).toArray.size = (kv .u8 x3).toArray.size) := ⟨by rw [kv_size, kv_size, HX2.out, HX3.out]⟩
  have HZ2 : Kp ((kv .u8 (fill 16 [])).toArray.size = (kv .u8 x2).toArray.size) := ⟨size50 HX2.out⟩
  go_enter Tryd.func6, Tryd.ntmps6
  go_wp2_with (first
    | (refine wpList_load_row rfl 32 (.tmp 7) rfl w.heap.size rfl 32 (kv .u8 x2).toArray (0, 0) _ (Blk.old (Blk.newAt (w := w) _ rfl) _) Tryd.underlying32 rfl HC2.out ?_)
    | (refine wpList_load_row rfl 32 (.tmp 8) rfl (w.heap.size + 1) rfl 32 (kv .u8 x3).toArray (0, 0) _ Q2.out Tryd.underlying32 rfl HC3.out ?_)
    | (refine wpList_store_row rfl 32 (.tmp 11) (.tmp 14) rfl (w.heap.size + 1 + 1) (kv .u8 x3).toArray rfl rfl 32 _ Q3.out HC3.out HZ3.out (kv_all _ _) ?_
       refine wpl_world (fun W => Row W w.heap.size 32 .u8 x2 ∧ Row W (w.heap.size + 1) 32 .u8 x3 ∧ Row W (w.heap.size + 1 + 1) 32 .u8 x3 ∧ Below w.heap.size w W) ⟨?_, ?_, ?_, ?_⟩ ?_
       · exact Row.otherRow Q1.out (by omega) _
       · exact Row.otherRow Q2.out (by omega) _
       · exact Row.setRow Q3.out _
       · exact Below.row Q4.out (by omega) _
       clear Q1 Q2 Q3 Q4
       rintro W2 ⟨q1, q2, q3, q4⟩
       have P1 := Kp.mk q1
       have P2 := Kp.mk q2
       have P3 := Kp.mk q3
       have P4 := Kp.mk q4
       clear q1 q2 q3 q4)
    | (refine wpList_store_row rfl 32 (.tmp 11) (.tmp 12) rfl (w.heap.size + 1 + 1) (kv .u8 x2).toArray rfl rfl 32 _ (Blk.newAt _ (by simp)) HC2.out HZ2.out (kv_all _ _) ?_
       refine wpl_world (fun W => Row W w.heap.size 32 .u8 x2 ∧ Row W (w.heap.size + 1) 32 .u8 x3 ∧ Row W (w.heap.size + 1 + 1) 32 .u8 x2 ∧ Below w.heap.size w W) ⟨?_, ?_, ?_, ?_⟩ ?_
       · exact Row.otherRow (Row.alloc (Row.alloc (Blk.newAt _ rfl) _) _) (by omega) _
       · exact Row.otherRow (Row.alloc (Blk.newAt _ (by simp)) _) (by omega) _
       · exact Row.setRow (k := .u8) (l := fill 16 []) (Blk.newAt _ (by simp)) _
       · exact Below.row (more (more (more (Below.refl _ _) _) _) _) (by omega) _
       rintro W1 ⟨q1, q2, q3, q4⟩
       have Q1 := Kp.mk q1
       have Q2 := Kp.mk q2
       have Q3 := Kp.mk q3
       have Q4 := Kp.mk q4
       clear q1 q2 q3 q4))
  obtain ⟨A, hA⟩ : ∃ A, A = w.heap.size := ⟨_, rfl⟩
  have HA := Kp.mk hA
  rw [← hA] at Q1 Q2 Q3 Q4
  rw [← hA]
  clear hA
  refine wp_region_pred (fun w' => Row w' A 32 .u8 x2 ∧ Row w' (A + 1) 32 .u8 x3 ∧ Row w' (A + 1 + 1) 32 .u8 x2 ∧ Below w.heap.size w w') [0, 1, 2, 3, 4, 5, 6, 7, 8, 9, 10, 11, 12, 13, 14, 15, 16, 17, 18, 19, 20, 21, 22, 23, 24, 25, 26, 27, 28, 29, 30, 31, 32, 33, 34, 35] [36]
    (fun i w' v => match i with
      | 2 | 5 | 13 | 15 => v = .slice a0 len0 cap0
      | 3 | 7 => v = .slice a1 len1 cap1
      | 4 | 9 => v = .bool (decide (z0 = z1))
      | 6 => v = .string (strOfNums z0)
      | 8 => v = .string (strOfNums z1)
      | 20 | 23 | 30 | 32 | 33 => v = dgV x2
      | 21 | 24 | 31 => v = dgV x3
      | 22 | 25 => v = .bool (decide (x2 = x3))
      | 29 => v = .bool false
      | 14 => ∃ g, v = .slice (some ⟨g, 0, none⟩) 0 0 ∧ Blk w' g (.cells #[] 5)
      | 16 => HoldsB w' w'.heap.size v z0
      | _ => v = .bool true)
    [[], [(0, some 15)], [(1, some 16)], [(1, some 16)], [(1, some 16), (2, some 17), (3, some 18)], [(1, some 16)], [(1, some 16), (5, some 20)], [(1, some 16)], [(1, some 16), (7, some 22)], [(1, some 16), (6, some 21), (8, some 23)], [(1, some 16), (4, some 19), (9, some 24)], [(1, some 16), (10, some 25)], [(4, some 19), (11, some 26)], [(12, some 27)], [(12, some 27)], [(12, some 27)], [(12, some 27), (14, some 29), (15, some 30)], [(12, some 27), (13, some 28), (16, some 31)], [(12, some 27), (17, some 32)], [(17, some 32), (18, some 33)], [(19, some 34)], [(19, some 34)], [(19, some 34), (20, some 35), (21, some 36)], [(19, some 34)], [(19, some 34)], [(19, some 34), (23, some 38), (24, some 39)], [(19, some 34), (22, some 37), (25, some 40)], [(19, some 34), (26, some 41)], [(22, some 37), (27, some 42)], [(28, some 43)], [(28, some 43)], [(28, some 43)], [(28, some 43), (29, some 44), (30, some 45), (31, some 46)], [(28, some 43)], [(28, some 43), (32, some 47), (33, some 48)], [(28, some 43), (34, some 49)]]
    [(0, some 15), (1, some 16), (2, some 17), (3, some 18), (4, some 19), (5, some 20), (6, some 21), (7, some 22), (8, some 23), (9, some 24), (10, some 25), (11, some 26), (12, some 27), (13, some 28), (14, some 29), (15, some 30), (16, some 31), (17, some 32), (18, some 33), (19, some 34), (20, some 35), (21, some 36), (22, some 37), (23, some 38), (24, some 39), (25, some 40), (26, some 41), (27, some 42), (28, some 43), (29, some 44), (30, some 45), (31, some 46), (32, some 47), (33, some 48), (34, some 49), (35, some 50)]
    (by kernel_rfl) (by kernel_rfl) (by kernel_rfl) (by kernel_rfl) (by kernel_rfl) (by kernel_rfl) (by decide) (by decide) (fun w1 w2 h hb => ⟨h.1.keep hb, h.2.1.keep hb, h.2.2.1.keep hb, h.2.2.2.trans (hb.mono (by have := h.1.lt; have := HA.out; omega))⟩) ?_ ⟨Q1.out.drew, Q2.out.drew, Q3.out.drew, by rw [HA.out] at Q4; exact Q4.out.drew⟩ ?_ ?_
  · intro i w1 w2 v h hb
    by_cases h14 : i = 14
    · subst h14
      obtain ⟨g, e, hg⟩ := h
      exact ⟨g, e, hg.keep hb⟩
    by_cases h16 : i = 16
    · subst h16
      exact (HoldsB.keep h hb).mono hb.size
    match i, h14, h16, h with
    | 0, _, _, h => exact h
    | 1, _, _, h => exact h
    | 2, _, _, h => exact h
    | 3, _, _, h => exact h
    | 4, _, _, h => exact h
    | 5, _, _, h => exact h
    | 6, _, _, h => exact h
    | 7, _, _, h => exact h
    | 8, _, _, h => exact h
    | 9, _, _, h => exact h
    | 10, _, _, h => exact h
    | 11, _, _, h => exact h
    | 12, _, _, h => exact h
    | 13, _, _, h => exact h
    | 15, _, _, h => exact h
    | 17, _, _, h => exact h
    | 18, _, _, h => exact h
    | 19, _, _, h => exact h
    | 20, _, _, h => exact h
    | 21, _, _, h => exact h
    | 22, _, _, h => exact h
    | 23, _, _, h => exact h
    | 24, _, _, h => exact h
    | 25, _, _, h => exact h
    | 26, _, _, h => exact h
    | 27, _, _, h => exact h
    | 28, _, _, h => exact h
    | 29, _, _, h => exact h
    | 30, _, _, h => exact h
    | 31, _, _, h => exact h
    | 32, _, _, h => exact h
    | 33, _, _, h => exact h
    | 34, _, _, h => exact h
    | 35, _, _, h => exact h
    | 14, h, _, _ => exact absurd rfl h
    | 16, _, h, _ => exact absurd rfl h
    | _ + 36, _, _, h => exact h
  · refine ⟨fun γ wx hS h => ?_, fun γ wx hS h => ?_, fun γ wx hS h => ?_, fun γ wx hS h => ?_, fun γ wx hS h => ?_, fun γ wx hS h => ?_, fun γ wx hS h => ?_, fun γ wx hS h => ?_, fun γ wx hS h => ?_, fun γ wx hS h => ?_, fun γ wx hS h => ?_, fun γ wx hS h => ?_, fun γ wx hS h => ?_, fun γ wx hS h => ?_, fun γ wx hS h => ?_, fun γ wx hS h => ?_, fun γ wx hS h => ?_, fun γ wx hS h => ?_, fun γ wx hS h => ?_, fun γ wx hS h => ?_, fun γ wx hS h => ?_, fun γ wx hS h => ?_, fun γ wx hS h => ?_, fun γ wx hS h => ?_, fun γ wx hS h => ?_, fun γ wx hS h => ?_, fun γ wx hS h => ?_, fun γ wx hS h => ?_, fun γ wx hS h => ?_, fun γ wx hS h => ?_, fun γ wx hS h => ?_, fun γ wx hS h => ?_, fun γ wx hS h => ?_, fun γ wx hS h => ?_, fun γ wx hS h => ?_, fun γ wx hS h => ?_, trivial⟩
    · refine ⟨_, rfl, Or.inl ⟨rfl, predRun_call (f := 23) (args := #[]) (by simp only [putE]; go_simp) ?_⟩⟩
      exact (awake5 wx (HK.out.keep hS.2.2.2)).mono fun e w2 ⟨h1, h2⟩ => ⟨_, h1, rfl, h2⟩
    · have h0 := h
      have e0 : γ 0 = .bool true := h0
      refine ⟨_, rfl, Or.inl ⟨(by simp only [putE, e0]; rfl), predRun_value (v := .bool true) (by simp only [putE, e0]; first | rfl | (go_simp; done) | (go_simp; with_reducible rfl)) rfl⟩⟩
    · have h1 := h
      have e1 : γ 1 = .bool true := h1
      refine ⟨_, rfl, Or.inl ⟨(by simp only [putE, e1]; rfl), predRun_value (v := .slice a0 len0 cap0) (by simp only [putE, e1]; first | rfl | (go_simp; done) | (go_simp; with_reducible rfl)) rfl⟩⟩
    · have h1 := h
      have e1 : γ 1 = .bool true := h1
      refine ⟨_, rfl, Or.inl ⟨(by simp only [putE, e1]; rfl), predRun_value (v := .slice a1 len1 cap1) (by simp only [putE, e1]; first | rfl | (go_simp; done) | (go_simp; with_reducible rfl)) rfl⟩⟩
    · obtain ⟨h1, h2, h3⟩ := h
      have e1 : γ 1 = .bool true := h1
      have e2 : γ 2 = .slice a0 len0 cap0 := h2
      have e3 : γ 3 = .slice a1 len1 cap1 := h3
      refine ⟨_, rfl, Or.inl ⟨(by simp only [putE, e1, e2, e3]; rfl), predRun_call (f := 28) (args := #[.slice a0 len0 cap0, .slice a1 len1 cap1]) (by simp only [putE, e1, e2, e3]; go_simp) ?_⟩⟩
      exact (equal_any _ _ _ _ z0 z1 wx (H0.out.keep hS.2.2.2) (H1.out.keep hS.2.2.2)).mono fun e w2 ⟨h1, h2⟩ => ⟨_, h1, rfl, h2⟩
    · have h1 := h
      have e1 : γ 1 = .bool true := h1
      refine ⟨_, rfl, Or.inl ⟨(by simp only [putE, e1]; rfl), predRun_value (v := .slice a0 len0 cap0) (by simp only [putE, e1]; first | rfl | (go_simp; done) | (go_simp; with_reducible rfl)) rfl⟩⟩
    · obtain ⟨h1, h5⟩ := h
      have e1 : γ 1 = .bool true := h1
      have e5 : γ 5 = .slice a0 len0 cap0 := h5
      refine ⟨_, rfl, Or.inl ⟨(by simp only [putE, e1, e5]; rfl), predRun_value (v := .string (strOfNums z0)) (by simp only [putE, e1, e5]; have ht := (H0.out.keep hS.2.2.2).text; first | rfl | (go_simp; done) | (go_simp; with_reducible rfl)) rfl⟩⟩
    · have h1 := h
      have e1 : γ 1 = .bool true := h1
      refine ⟨_, rfl, Or.inl ⟨(by simp only [putE, e1]; rfl), predRun_value (v := .slice a1 len1 cap1) (by simp only [putE, e1]; first | rfl | (go_simp; done) | (go_simp; with_reducible rfl)) rfl⟩⟩
    · obtain ⟨h1, h7⟩ := h
      have e1 : γ 1 = .bool true := h1
      have e7 : γ 7 = .slice a1 len1 cap1 := h7
      refine ⟨_, rfl, Or.inl ⟨(by simp only [putE, e1, e7]; rfl), predRun_value (v := .string (strOfNums z1)) (by simp only [putE, e1, e7]; have ht := (H1.out.keep hS.2.2.2).text; first | rfl | (go_simp; done) | (go_simp; with_reducible rfl)) rfl⟩⟩
    · obtain ⟨h1, h6, h8⟩ := h
      have e1 : γ 1 = .bool true := h1
      have e6 : γ 6 = .string (strOfNums z0) := h6
      have e8 : γ 8 = .string (strOfNums z1) := h8
      refine ⟨_, rfl, Or.inl ⟨(by simp only [putE, e1, e6, e8]; rfl), predRun_value (v := .bool ((strOfNums z0).toList == (strOfNums z1).toList)) (by simp only [putE, e1, e6, e8]; generalize strOfNums z0 = s0; generalize strOfNums z1 = s1; first | (go_simp; done) | (go_simp; rfl)) ?_⟩⟩
      exact congrArg Value.bool HTX.out
    · obtain ⟨h1, h4, h9⟩ := h
      have e1 : γ 1 = .bool true := h1
      have e4 : γ 4 = .bool (decide (z0 = z1)) := h4
      have e9 : γ 9 = .bool (decide (z0 = z1)) := h9
      refine ⟨_, rfl, Or.inl ⟨(by simp only [putE, e1, e4, e9]; rfl), predRun_value (v := .bool true) (by simp only [putE, e1, e4, e9]; generalize decide (z0 = z1) = bb; cases bb <;> first | rfl | (go_simp; done) | (go_simp; with_reducible rfl)) rfl⟩⟩
    · obtain ⟨h1, h10⟩ := h
      have e1 : γ 1 = .bool true := h1
      have e10 : γ 10 = .bool true := h10
      refine ⟨_, rfl, Or.inl ⟨(by simp only [putE, e1, e10]; rfl), predRun_value (v := .bool true) (by simp only [putE, e1, e10]; first | rfl | (go_simp; done) | (go_simp; with_reducible rfl)) rfl⟩⟩
    · obtain ⟨h4, h11⟩ := h
      have e4 : γ 4 = .bool (decide (z0 = z1)) := h4
      have e11 : γ 11 = .bool true := h11
      refine ⟨_, rfl, Or.inl ⟨(by simp only [putE, e4, e11]; rfl), predRun_value (v := .bool true) (by simp only [putE, e4, e11]; first | rfl | (go_simp; done) | (go_simp; with_reducible rfl)) rfl⟩⟩
    · have h12 := h
      have e12 : γ 12 = .bool true := h12
      refine ⟨_, rfl, Or.inl ⟨(by simp only [putE, e12]; rfl), predRun_value (v := .slice a0 len0 cap0) (by simp only [putE, e12]; first | rfl | (go_simp; done) | (go_simp; with_reducible rfl)) rfl⟩⟩
    · have h12 := h
      have e12 : γ 12 = .bool true := h12
      refine ⟨_, rfl, Or.inl ⟨(by simp only [putE, e12]; rfl), predRun_new (w' := wx.alloc (.cells #[] 5)) (v := .slice (some ⟨wx.heap.size, 0, none⟩) 0 0) (by simp only [putE, e12]; go_simp) (more (Below.refl _ _) _) ⟨_, rfl, Blk.new _ _⟩⟩⟩
    · have h12 := h
      have e12 : γ 12 = .bool true := h12
      refine ⟨_, rfl, Or.inl ⟨(by simp only [putE, e12]; rfl), predRun_value (v := .slice a0 len0 cap0) (by simp only [putE, e12]; first | rfl | (go_simp; done) | (go_simp; with_reducible rfl)) rfl⟩⟩
    · obtain ⟨h12, h14, h15⟩ := h
      have e12 : γ 12 = .bool true := h12
      have e15 : γ 15 = .slice a0 len0 cap0 := h15
      obtain ⟨g, e14, hbg⟩ : ∃ g, γ 14 = .slice (some ⟨g, 0, none⟩) 0 0 ∧ Blk wx g (.cells #[] 5) := h14
      obtain ⟨v', w', hr, hb, hh⟩ := app_run wx g hbg _ _ z0 (H0.out.keep hS.2.2.2) HL0.out
      refine ⟨_, rfl, Or.inl ⟨(by simp only [putE, e12, e15]; rfl), predRun_new (w' := w') (v := v') ?_ hb hh⟩⟩
      exact exec_append (s := .tmp 29) (x := .tmp 30) rfl (by exact e14) (by exact e15) hr
    · obtain ⟨h12, h13, h16⟩ := h
      have e12 : γ 12 = .bool true := h12
      have e13 : γ 13 = .slice a0 len0 cap0 := h13
      have h16' : HoldsB wx wx.heap.size (γ 16) z0 := h16
      refine ⟨_, rfl, Or.inl ⟨(by simp only [putE, e12, e13]; rfl), predRun_call (f := 28) (args := #[.slice a0 len0 cap0, γ 16]) (by simp only [putE, e12, e13]; go_simp) ?_⟩⟩
      exact (equal_any _ _ _ _ z0 z0 wx (H0.out.keep hS.2.2.2) h16').mono fun e w2 ⟨h1, h2⟩ => ⟨_, h1, by simp, h2⟩
    · obtain ⟨h12, h17⟩ := h
      have e12 : γ 12 = .bool true := h12
      have e17 : γ 17 = .bool true := h17
      refine ⟨_, rfl, Or.inl ⟨(by simp only [putE, e12, e17]; rfl), predRun_value (v := .bool true) (by simp only [putE, e12, e17]; first | rfl | (go_simp; done) | (go_simp; with_reducible rfl)) rfl⟩⟩
    · obtain ⟨h17, h18⟩ := h
      have e17 : γ 17 = .bool true := h17
      have e18 : γ 18 = .bool true := h18
      refine ⟨_, rfl, Or.inl ⟨(by simp only [putE, e17, e18]; rfl), predRun_value (v := .bool true) (by simp only [putE, e17, e18]; first | rfl | (go_simp; done) | (go_simp; with_reducible rfl)) rfl⟩⟩
    · have h19 := h
      have e19 : γ 19 = .bool true := h19
      refine ⟨_, rfl, Or.inl ⟨(by simp only [putE, e19]; rfl), predRun_value (exec_load_blk 32 (.tmp 7) rfl (A) rfl 32 _ (0, 0) _ hS.1 Tryd.underlying32 rfl (cells49 HX2.out)) rfl⟩⟩
    · have h19 := h
      have e19 : γ 19 = .bool true := h19
      refine ⟨_, rfl, Or.inl ⟨(by simp only [putE, e19]; rfl), predRun_value (exec_load_blk 32 (.tmp 8) rfl (A + 1) rfl 32 _ (0, 0) _ hS.2.1 Tryd.underlying32 rfl (cells49 HX3.out)) rfl⟩⟩
    · obtain ⟨h19, h20, h21⟩ := h
      have e19 : γ 19 = .bool true := h19
      have e20 : γ 20 = dgV x2 := h20
      have e21 : γ 21 = dgV x3 := h21
      refine ⟨_, rfl, Or.inl ⟨(by simp only [putE, e19, e20, e21]; rfl), predRun_call (f := 29) (args := #[dgV x2, dgV x3]) (by simp only [putE, e19, e20, e21]; go_simp) ?_⟩⟩
      exact (same_any x2 x3 wx HX2.out HB2.out HX3.out HB3.out).mono fun e w2 ⟨h1, h2⟩ => ⟨_, h1, rfl, h2⟩
    · have h19 := h
      have e19 : γ 19 = .bool true := h19
      refine ⟨_, rfl, Or.inl ⟨(by simp only [putE, e19]; rfl), predRun_value (exec_load_blk 32 (.tmp 7) rfl (A) rfl 32 _ (0, 0) _ hS.1 Tryd.underlying32 rfl (cells49 HX2.out)) rfl⟩⟩
    · have h19 := h
      have e19 : γ 19 = .bool true := h19
      refine ⟨_, rfl, Or.inl ⟨(by simp only [putE, e19]; rfl), predRun_value (exec_load_blk 32 (.tmp 8) rfl (A + 1) rfl 32 _ (0, 0) _ hS.2.1 Tryd.underlying32 rfl (cells49 HX3.out)) rfl⟩⟩
    · obtain ⟨h19, h23, h24⟩ := h
      have e19 : γ 19 = .bool true := h19
      have e23 : γ 23 = dgV x2 := h23
      have e24 : γ 24 = dgV x3 := h24
      refine ⟨_, rfl, Or.inl ⟨(by simp only [putE, e19, e23, e24]; rfl), predRun_value (v := .bool (decide (x2 = x3))) (by simp only [putE, e19, e23, e24]; have hq := HE32.out; have hg := eqg32; first | rfl | (go_simp; done) | (go_simp; with_reducible rfl)) rfl⟩⟩
    · obtain ⟨h19, h22, h25⟩ := h
      have e19 : γ 19 = .bool true := h19
      have e22 : γ 22 = .bool (decide (x2 = x3)) := h22
      have e25 : γ 25 = .bool (decide (x2 = x3)) := h25
      refine ⟨_, rfl, Or.inl ⟨(by simp only [putE, e19, e22, e25]; rfl), predRun_value (v := .bool true) (by simp only [putE, e19, e22, e25]; generalize decide (x2 = x3) = bb; cases bb <;> first | rfl | (go_simp; done) | (go_simp; with_reducible rfl)) rfl⟩⟩
    · obtain ⟨h19, h26⟩ := h
      have e19 : γ 19 = .bool true := h19
      have e26 : γ 26 = .bool true := h26
      refine ⟨_, rfl, Or.inl ⟨(by simp only [putE, e19, e26]; rfl), predRun_value (v := .bool true) (by simp only [putE, e19, e26]; first | rfl | (go_simp; done) | (go_simp; with_reducible rfl)) rfl⟩⟩
    · obtain ⟨h22, h27⟩ := h
      have e22 : γ 22 = .bool (decide (x2 = x3)) := h22
      have e27 : γ 27 = .bool true := h27
      refine ⟨_, rfl, Or.inl ⟨(by simp only [putE, e22, e27]; rfl), predRun_value (v := .bool true) (by simp only [putE, e22, e27]; first | rfl | (go_simp; done) | (go_simp; with_reducible rfl)) rfl⟩⟩
    · have h28 := h
      have e28 : γ 28 = .bool true := h28
      refine ⟨_, rfl, Or.inl ⟨(by simp only [putE, e28]; rfl), predRun_value (v := .bool false) (by simp only [putE, e28]; first | rfl | (go_simp; done) | (go_simp; with_reducible rfl)) rfl⟩⟩
    · have h28 := h
      have e28 : γ 28 = .bool true := h28
      refine ⟨_, rfl, Or.inl ⟨(by simp only [putE, e28]; rfl), predRun_value (exec_load_blk 32 (.tmp 7) rfl (A) rfl 32 _ (0, 0) _ hS.1 Tryd.underlying32 rfl (cells49 HX2.out)) rfl⟩⟩
    · have h28 := h
      have e28 : γ 28 = .bool true := h28
      refine ⟨_, rfl, Or.inl ⟨(by simp only [putE, e28]; rfl), predRun_value (exec_load_blk 32 (.tmp 8) rfl (A + 1) rfl 32 _ (0, 0) _ hS.2.1 Tryd.underlying32 rfl (cells49 HX3.out)) rfl⟩⟩
    · obtain ⟨h28, h29, h30, h31⟩ := h
      have e28 : γ 28 = .bool true := h28
      have e29 : γ 29 = .bool false := h29
      have e30 : γ 30 = dgV x2 := h30
      have e31 : γ 31 = dgV x3 := h31
      refine ⟨_, rfl, Or.inl ⟨(by simp only [putE, e28, e29, e30, e31]; rfl), predRun_call (f := 30) (args := #[.bool false, dgV x2, dgV x3]) (by simp only [putE, e28, e29, e30, e31]; go_simp) ?_⟩⟩
      exact (pick_false x2 x3 wx HX2.out HB2.out HX3.out HB3.out).mono fun e w2 ⟨h1, h2⟩ => ⟨_, h1, rfl, h2⟩
    · have h28 := h
      have e28 : γ 28 = .bool true := h28
      refine ⟨_, rfl, Or.inl ⟨(by simp only [putE, e28]; rfl), predRun_value (exec_load_blk 32 (.tmp 11) rfl (A + 1 + 1) rfl 32 _ (0, 0) _ hS.2.2.1 Tryd.underlying32 rfl (cells49 HXT.out)) rfl⟩⟩
    · obtain ⟨h28, h32, h33⟩ := h
      have e28 : γ 28 = .bool true := h28
      have e32 : γ 32 = dgV x2 := h32
      have e33 : γ 33 = dgV x2 := h33
      refine ⟨_, rfl, Or.inl ⟨(by simp only [putE, e28, e32, e33]; rfl), predRun_value (v := .bool true) (by simp only [putE, e28, e32, e33]; have hq := HE33.out; have hg := eqg50; first | rfl | (go_simp; done) | (go_simp; with_reducible rfl)) rfl⟩⟩
    · obtain ⟨h28, h34⟩ := h
      have e28 : γ 28 = .bool true := h28
      have e34 : γ 34 = .bool true := h34
      refine ⟨_, rfl, Or.inl ⟨(by simp only [putE, e28, e34]; rfl), predRun_value (v := .bool true) (by simp only [putE, e28, e34]; first | rfl | (go_simp; done) | (go_simp; with_reducible rfl)) rfl⟩⟩
  · intro γ w9 hS h
    have e35 : γ 35 = .bool true := h.2.2.2.2.2.2.2.2.2.2.2.2.2.2.2.2.2.2.2.2.2.2.2.2.2.2.2.2.2.2.2.2.2.2.2
    simp only [putE, Act.put, List.setIfInBounds_toArray, List.set_cons_zero, List.set_cons_succ]
    rw [e35]
    have HB9 := Kp.mk hS.2.2.2
    clear h hS e35
    refine wpOps_step rfl rfl ?_
    refine wp_assign_end rfl rfl ?_
    refine wpOps_done ?_
    go_wp2_with fail
    go_ret
    exact ⟨rfl, HB9.out⟩
end Go.Proofs.YtahmioiefmheeaaDoor

namespace Go.Proofs.YtahmioiefmheeaaDoor
open Go.RowKit

theorem macHolds_walk (a0 : Option Addr) (len0 cap0 : Nat) (z0 : List Int) (a1 : Option Addr) (len1 cap1 : Nat) (z1 : List Int) (x2 x3 : List Int) (x4 : Bool) (w : World) (w0 : HoldsB w w.heap.size (.slice a0 len0 cap0) z0) (g0 : len0 ≤ 140737488351232) (w1 : HoldsB w w.heap.size (.slice a1 len1 cap1) z1) (l2 : x2.length = 16) (b2 : Bytes x2) (l3 : x3.length = 16) (b3 : Bytes x3) (hk : KonIs w) :
    Calls Tryd.prog 6 #[.slice a0 len0 cap0, .slice a1 len1 cap1, dgV x2, dgV x3, .bool x4] w fun e w' => e = .returned (.bool true) ∧ Below w.heap.size w w' := by
  cases x4
  · exact macHolds_false a0 len0 cap0 z0 a1 len1 cap1 z1 x2 x3 w w0 g0 w1 l2 b2 l3 b3 hk
  · exact macHolds_true a0 len0 cap0 z0 a1 len1 cap1 z1 x2 x3 w w0 g0 w1 l2 b2 l3 b3 hk
end Go.Proofs.YtahmioiefmheeaaDoor

namespace Go.Proofs.YtahmioiefmheeaaDoor
open Go.ChangeShapes Go.WideShapes Go.ChangeAt Go.RowKit

abbrev laidL : List (String × DataW Unit) := Rows.shaHexesRow.laid
theorem gKon : Tryd.prog.globalNamed ((Rows.shaHexesRow.laid.map (·.1)).headD default) = some 0 := by kernel_rfl
theorem tKon : (Tryd.prog.globals[0]?).map (·.type) = some 153 := by kernel_rfl
set_option maxRecDepth 100000 in
theorem laid_kon : (Rows.laid_fingerpost_sha_constants : DataW Unit) = .agg (kon.map fun k => .lit (.int .u32 k)) := rfl
set_option maxRecDepth 100000 in
theorem door_met (os : Os) (args : Array Value) : laidMetH Tryd.prog laidL ((World.doorLaid Tryd.prog 400 os).forCall (fun _ _ => 0) ⟨#[], args, []⟩).memory :=
  laidMetH_of_parts3 (fuel := 8) (laidMet_of_run' 8 (by kernel_rfl) (by kernel_rfl)) (by kernel_rfl) (by kernel_rfl)
theorem kon_of_laid {W : World} (h : laidMetH Tryd.prog laidL W) : KonIs W := by
  rw [MakeChecks.laidMetH_plain _ _ _ (by kernel_rfl)] at h
  obtain ⟨ps, ⟨g0, t0, cs0, f0, p0, q0, hg0, ht0, hv0, hd0, _, _⟩, _⟩ := h
  obtain rfl := Option.some.inj (gKon.symm.trans hg0)
  obtain rfl := Option.some.inj (tKon.symm.trans ht0)
  obtain ⟨xs, m, rfl, hx, hlen, hn, hel⟩ := DataW.trod_array Tryd.underlying153 hd0
  have c67 : Tryd.prog.cellsOf 46 = 1 := by kernel_rfl
  simp only [Prod.mk.injEq] at hx
  have hx1 := hx.1
  rw [laid_kon] at hx1
  simp only [DataW.agg.injEq] at hx1
  intro i hi
  have he := hel i hi
  rw [c67, Nat.mul_one] at he
  have hix : i < xs.length := by omega
  rw [List.getElem?_eq_getElem hix] at he
  obtain ⟨k, e1, e2, _⟩ := DataW.trod_int Tryd.underlying46 he
  have hk : (xs.map (·.1))[i]? = some (DataW.lit (.int .u32 k)) := by
    rw [List.getElem?_map, List.getElem?_eq_getElem hix]
    exact congrArg some (congrArg Prod.fst e2)
  rw [← hx1, List.getElem?_map, List.getElem?_eq_getElem (by rw [kon_len]; exact hi)] at hk
  simp at hk
  rw [World.var?_cell hg0 hv0 i]
  have h3 : cs0.toList[i]? = some (.int .u32 k) := by
    have h4 := congrArg (fun l : List Value => l[0]?) e1
    simp only [List.getElem?_take, List.getElem?_drop, Nat.lt_one_iff, if_true, Nat.add_zero] at h4
    simpa using h4
  rw [Array.getElem?_toList] at h3
  rw [h3, ← hk, List.getD_eq_getElem?_getD, List.getElem?_eq_getElem (by rw [kon_len]; exact hi)]
  rfl
end Go.Proofs.YtahmioiefmheeaaDoor

namespace Go.Proofs.YtahmioiefmheeaaDoor
open Go.ChangeShapes Go.WideShapes Go.ChangeAt Go.RowKit Go.Deep

theorem okWide_arr {P : Program} {w : World} {r : Reach} {base : Nat} {t e : TypeId} {n : Nat} {v : Value} (ht : P.underlying t = some (.array n e)) (h : Value.okWide P w r base t v) : ∃ cs, v = .agg cs ∧ cs.size = P.cellsOf t := by
  simp only [Value.okWide, ht] at h
  obtain ⟨cs, h1, h2, _⟩ := h
  exact ⟨cs, h1, h2⟩
set_option maxRecDepth 100000 in
/-- An array of bytes that came in by value. -/
theorem open_bytes {H : Type} {enc : TypeId × Value → H} {W : World} {r : Reach} {base b0 : Nat} {spare held : Bool} {t : TypeId} {n : Nat} {v : Value} {d : DataW H} {p : List MemPlace}
    (ht : Tryd.prog.underlying t = some (.array n 5)) (hC : Tryd.prog.cellsOf t = n) (hv : Value.okWide Tryd.prog W r b0 t v) (h : DataW.Trod enc Tryd.prog W base (fun _ => spare) held t v d p) :
    ∃ l : List Int, v = .agg (kv .u8 l).toArray ∧ l.length = n ∧ Bytes l := by
  have c5 : Tryd.prog.cellsOf 5 = 1 := by kernel_rfl
  obtain ⟨cs, rfl, hsz⟩ := okWide_arr ht hv
  obtain ⟨fuel, hf⟩ := h
  obtain ⟨xs, m, rfl, hx, hlen, hn, hel⟩ := DataW.trod_array ht hf
  have hcl : cs.size = n := hsz.trans hC
  have each : ∀ i, i < n → ∃ z : Int, cs.toList[i]? = some (.int .u8 z) ∧ 0 ≤ z ∧ z ≤ 255 := fun i hi => by
    have he := hel i hi
    rw [c5, Nat.mul_one] at he
    rw [List.getElem?_eq_getElem (by omega)] at he
    obtain ⟨k, e1, _, wk⟩ := DataW.trod_int Tryd.underlying5 he
    have h1 : IntKind.u8.min = 0 := rfl
    have h2 : IntKind.u8.max = 255 := rfl
    simp [Lit.wf, h1, h2] at wk
    refine ⟨k, ?_, wk⟩
    have h4 := congrArg (fun l : List Value => l[0]?) e1
    simp only [List.getElem?_take, List.getElem?_drop, Nat.lt_one_iff, if_true, Nat.add_zero] at h4
    simpa [Value.cells] using h4
  obtain ⟨f, hf'⟩ : ∃ f : Nat → Int, ∀ i, i < n → cs.toList[i]? = some (.int .u8 (f i)) ∧ 0 ≤ f i ∧ f i ≤ 255 := by
    refine ⟨fun i => if h : i < n then Classical.choose (each i h) else 0, fun i hi => ?_⟩
    simp only [hi, dif_pos]
    exact Classical.choose_spec (each i hi)
  refine ⟨(List.range n).map f, ?_, by simp, fun z hz => ?_⟩
  · congr 1
    apply Array.toList_inj.1
    apply List.ext_getElem?
    intro i
    by_cases hi : i < n
    · rw [(hf' i hi).1]
      simp [List.getElem?_range hi]
    · rw [List.getElem?_eq_none (by simp; omega), List.getElem?_eq_none (by simp; omega)]
  · obtain ⟨i, hi, rfl⟩ := List.mem_map.1 hz
    exact (hf' i (List.mem_range.1 hi)).2
/-- The slice's cells are the numbers ns, each of 64 bits. -/
def HoldsQ (w : World) (a : Option Addr) (ns : List Int) : Prop :=
  (∀ x ∈ ns, 0 ≤ x ∧ x < 18446744073709551616) ∧ ∀ i, i < ns.length → ∃ b off, a = some ⟨b, off, none⟩ ∧ b < w.heap.size ∧ w.cell? ⟨b, off + i, none⟩ = some (.int .u64 (ns.getD i 0))
theorem HoldsQ.keep {w w' : World} {a : Option Addr} {ns : List Int} (h : HoldsQ w a ns) (hb : Below w.heap.size w w') : HoldsQ w' a ns := by
  refine ⟨h.1, fun i hi => ?_⟩
  obtain ⟨b, off, e1, e2, e3⟩ := h.2 i hi
  exact ⟨b, off, e1, Nat.lt_of_lt_of_le e2 hb.size, (hb.cell (p := ⟨b, off + i, none⟩) e2).trans e3⟩
/-- A slice of numbers that came in. -/
theorem row_nums {H : Type} {enc : TypeId × Value → H} {W : World} {a : Option Addr} {len cap : Nat} {d : DataW H} {p : List MemPlace}
    (k : DataW.Trod enc Tryd.prog W 0 (fun _ => true) true 38 (.slice a len cap) d p) : ∃ ns, ns.length = len ∧ HoldsQ W a ns := by
  obtain ⟨fuel, hf⟩ := k
  rcases open_slice1 Tryd.underlying38 (by kernel_rfl) hf with ⟨hcs, _⟩ | ⟨x, l, c, m, n, V, D, Pl, hcs, hb, hl, hm, hmm, hx, hi⟩
  · simp [Value.cells] at hcs
    obtain ⟨rfl, rfl, rfl⟩ := hcs
    exact ⟨[], rfl, (fun x h => by cases h), fun i hi => by simp at hi⟩
  · simp [Value.cells] at hcs
    obtain ⟨rfl, rfl, rfl⟩ := hcs
    have hmc : m = cap := by simpa using hmm
    have each : ∀ i, i < len → ∃ z : Int, W.cell? (x.add i) = some (.int .u64 z) ∧ 0 ≤ z ∧ z < 18446744073709551616 := fun i him => by
      obtain ⟨hc, ht⟩ := hi i (by omega)
      obtain ⟨u, e0, _, wu⟩ := DataW.trod_int Tryd.underlying130 ht
      simp only [List.cons.injEq, and_true] at e0
      rw [e0] at hc
      have h1 : IntKind.u64.min = 0 := rfl
      have h2 : IntKind.u64.max = 18446744073709551615 := rfl
      simp [Lit.wf, h1, h2] at wu
      exact ⟨u, hc, by omega⟩
    obtain ⟨f, hf'⟩ : ∃ f : Nat → Int, ∀ i, i < len → W.cell? (x.add i) = some (.int .u64 (f i)) ∧ 0 ≤ f i ∧ f i < 18446744073709551616 := by
      refine ⟨fun i => if h : i < len then Classical.choose (each i h) else 0, fun i hi => ?_⟩
      simp only [hi, dif_pos]
      exact Classical.choose_spec (each i hi)
    refine ⟨(List.range len).map f, by simp, fun z hz => ?_, fun i hi' => ?_⟩
    · obtain ⟨i, hi, rfl⟩ := List.mem_map.1 hz
      exact (hf' i (List.mem_range.1 hi)).2
    · simp at hi'
      have h1 := (hf' i hi').1
      have hsp : x.spot = none ∧ x.block < W.heap.size := by
        have h1 := (hf' 0 (by omega)).1
        have h2 : x.add 0 = x := by simp [Addr.add]
        rw [h2] at h1
        exact ⟨World.cell?_spot h1, World.block_lt_of_cell? W _ h1⟩
      obtain ⟨b, off, spot⟩ := x
      simp only at hsp
      obtain ⟨rfl, hlt⟩ := hsp
      have e : (⟨b, off, none⟩ : Addr).add i = ⟨b, off + i, none⟩ := by unfold Addr.add; split <;> simp_all
      rw [e] at h1
      refine ⟨b, off, rfl, hlt, ?_⟩
      rw [h1, List.getD_eq_getElem?_getD, List.getElem?_map, List.getElem?_range hi']
      rfl
set_option maxRecDepth 100000 in
/-- How many there can be. -/
theorem nums_reach {H : Type} {enc : TypeId × Value → H} {W : World} {a : Option Addr} {len cap : Nat} {d : DataW H} {p : List MemPlace}
    (k : DataW.Trod enc Tryd.prog W 0 (fun _ => true) true 38 (.slice a len cap) d p) {ts : List TypeId} {ds : List (DataW H)} {j : Nat}
    (hs : (DataW.weightsEach Tryd.prog ts ds).all (· ≤ reachBytes) = true) (ht : ts[j]? = some 38) (hd : ds[j]? = some d) : 8 * len ≤ 140737488351232 := by
  have hb : Tryd.prog.bytesOf 130 = 8 := by kernel_rfl
  obtain ⟨fuel, hf⟩ := k
  rcases open_slice1 Tryd.underlying38 (by kernel_rfl) hf with ⟨hcs, _⟩ | ⟨x, l, c, m, n, V, D, Pl, hcs, hb, hl, hm, hmm, hx, hi⟩
  · simp [Value.cells] at hcs
    obtain ⟨rfl, rfl, rfl⟩ := hcs
    omega
  · simp [Value.cells] at hcs
    obtain ⟨rfl, rfl, rfl⟩ := hcs
    simp only [Prod.mk.injEq] at hx
    rw [hx.1] at hd
    have := sized_slice hs ht hd Tryd.underlying38
    rw [‹Tryd.prog.bytesOf 130 = 8›] at this
    simp only [List.length_map, List.length_range, reachBytes] at this
    omega
end Go.Proofs.YtahmioiefmheeaaDoor
