/-
  Check; the number that a text of digits is.
-/
import Derived.Test.YtcppmkblllappaaDoorCfC
import Derived.Test.YtcppmkblllappaaDoorShelf
import Derived.Lib.AppendIntMem
import Derived.Lib.AtoiBound
import Derived.Lib.AtoiAll
import Derived.Lib.SmallJoins
namespace Go.Proofs.YtcppmkblllappaaDoor
open Go.RowKit

def I64s (f : Nat → Int) : Prop := ∀ i, -9223372036854775808 ≤ f i ∧ f i ≤ 9223372036854775807
/-- The first number that may not be, from i on; 15: there is none. -/
def ckF (r : Nat → Int) : Nat → Nat → Nat
  | 0, _ => 15
  | n + 1, i => if mayB i (r i) = false then i else ckF r n (i + 1)
def ck (r : Nat → Int) : Nat := ckF r 15 0
theorem ckF_step (r : Nat → Int) {i : Nat} (h : i < 15) : ckF r (15 - i) i = if mayB i (r i) = false then i else ckF r (15 - (i + 1)) (i + 1) := by
  rw [show 15 - i = (15 - (i + 1)) + 1 by omega]
  rfl
def ckE (r : Nat → Int) : Int := if ck r = 15 then 0 else 30
theorem info75z : (Tryd.prog.info? 75).map (fun i => (i.zero, i.size)) = some (some (.agg #[.string ⟨#[]⟩, .int .i64 0, .int .i64 0, .int .i64 0, .pointer none]), 5) := by kernel_rfl
set_option maxRecDepth 100000 in
set_option maxHeartbeats 6400000 in
theorem check_any (r : Nat → Int) (hr : I64s r) (w : World) : Calls Tryd.prog 11 #[.agg (rc r).toArray] w fun e w' => e = .returned (.tuple #[.string (nmA (ck r)), .int .i64 (ckE r)]) ∧ Below w.heap.size w w' := by
  have hA := fun (w : World) => box_row (t := 33) (cs := rc r) (info33s r) w
  have HR := Kp.mk hr
  obtain ⟨B, hB⟩ : ∃ B, B = w.heap.size := ⟨_, rfl⟩
  have HB := Kp.mk hB
  obtain ⟨w1, hw1⟩ : ∃ w1, w1 = w.alloc (rObj r) := ⟨_, rfl⟩
  have HW1 := Kp.mk hw1
  have K1 : Kp (Blk w1 B (rObj r) ∧ Below w.heap.size w w1) := ⟨by rw [hw1]; exact Blk.newAt _ hB, by rw [hw1]; exact more (Below.refl _ _) _⟩
  clear hB hw1 hr
  go_enter Tryd.func11, Tryd.ntmps11
  go_wp2_with (refine wpList_box_eq rfl 33 (.tmp 0) rfl _ rfl _ _ (hA _) ?_)
  rw [← HW1.out, ← HB.out]
  clear hA
  refine (numbers_any B _).mono ?_
  rintro e w2 ⟨L, rfl, hL, hlL, hb⟩
  have K2 : Kp (Blk w2 B (rObj r) ∧ Below w.heap.size w w2 ∧ Blk w2 L (nbObj B)) := ⟨K1.out.1.keep hb, K1.out.2.trans (hb.mono K1.out.2.size), hL⟩
  clear hL hlL hb K1
  go_wp2_with fail
  go_loopw [8] (fun ct wr => ∃ i : Nat, i ≤ 15 ∧ ct = .int .i64 i ∧ Kp (ckF r (15 - i) i = ck r) ∧ Kp (Blk wr B (rObj r) ∧ Below w.heap.size w wr ∧ Blk wr L (nbObj B))) (fun ct _ => 15 - (intOf ct).toNat)
  case atStart => exact ⟨0, by omega, rfl, ⟨rfl⟩, K2⟩
  case round =>
    clear K2
    obtain ⟨i, hi, rfl, C3, K3⟩ := hrel
    by_cases hlt : i < 15
    · have hlt' : (i : Int) < 15 := by omega
      have HLT := Kp.mk hlt
      have hrg := nb_cells K3.out.2.2 hlt
      have n0 : wr.cell? ⟨L, i * 5, none⟩ = some (.string (nmA i)) := hrg 0 _ rfl
      have n1 : wr.cell? ⟨L, i * 5 + 1, none⟩ = some (.int .i64 (ls i)) := hrg 1 _ rfl
      have n2 : wr.cell? ⟨L, i * 5 + 2, none⟩ = some (.int .i64 (gt i)) := hrg 2 _ rfl
      have n3 : wr.cell? ⟨L, i * 5 + 3, none⟩ = some (.int .i64 (us i)) := hrg 3 _ rfl
      have n4 : wr.cell? ⟨L, i * 5 + 4, none⟩ = some (.pointer (some ⟨B, i, none⟩)) := hrg 4 _ rfl
      have HM : Kp (∀ o, Calls Tryd.prog 29 #[.agg #[.string (nmA i), .int .i64 (ls i), .int .i64 (gt i), .int .i64 (us i), .pointer (some ⟨B, i, none⟩)]] (wr.alloc o) fun e w' => e = .returned (.bool (mayB i (r i))) ∧ Below (wr.alloc o).heap.size (wr.alloc o) w') := ⟨fun o => may_any B i (r i) HLT.out _ (HR.out i) ((K3.out.1.old o).rc HLT.out) (K3.out.1.old o).lt⟩
      have K4 : Kp (∀ o, Blk (wr.alloc o) B (rObj r) ∧ Below w.heap.size w (wr.alloc o) ∧ Blk (wr.alloc o) L (nbObj B)) := ⟨fun o => ⟨K3.out.1.old o, K3.out.2.1.alloc K3.out.2.1.size o, K3.out.2.2.old o⟩⟩
      have CS : Kp (ck r = if mayB i (r i) = false then i else ckF r (15 - (i + 1)) (i + 1)) := ⟨by rw [← C3.out, ckF_step r hlt]⟩
      have HN : Kp (∃ nm, nm = nmA i) := ⟨_, rfl⟩
      obtain ⟨X, hX⟩ : ∃ X, X = wr.heap.size := ⟨_, rfl⟩
      have HX := Kp.mk hX
      obtain ⟨nm, hnm⟩ : ∃ nm, nm = nmA i := ⟨_, rfl⟩
      have HNM := Kp.mk hnm
      rw [← hnm] at n0 HM
      have KX : Kp (∀ a b c d, Blk (wr.alloc (.cells #[.string nm, a, b, c, d] 75)) X (.cells #[.string nm, a, b, c, d] 75)) := ⟨fun a b c d => Blk.newAt _ hX⟩
      generalize ls i = li at n1 HM
      generalize gt i = gi at n2 HM
      generalize us i = ui at n3 HM
      clear hrg hlt K3 C3 HN hX hnm
      obtain ⟨bb, hbb⟩ : ∃ bb, bb = mayB i (r i) := ⟨_, rfl⟩
      rw [← hbb] at HM CS
      clear hbb
      go_wp2_with fail
      refine (HM.out _).mono ?_
      rintro e w5 ⟨rfl, hb⟩
      have K5 : Kp (Blk w5 B (rObj r) ∧ Below w.heap.size w w5 ∧ Blk w5 L (nbObj B)) := ⟨(K4.out _).1.keep hb, (K4.out _).2.1.trans (hb.mono (K4.out _).2.1.size), (K4.out _).2.2.keep hb⟩
      have x0 : w5.cell? ⟨wr.heap.size, 0, none⟩ = some (.string nm) := by
        have := ((KX.out _ _ _ _).keep hb).cell 0
        rw [HX.out] at this
        exact this
      clear hb K4 KX HM n0 n1 n2 n3 n4
      cases bb with
      | false =>
        have HF : Kp (nmA (ck r) = nm ∧ ckE r = 30) := ⟨by
          have : ck r = i := by rw [CS.out]; simp
          have h15 := HLT.out
          exact ⟨by rw [this, HNM.out], by unfold ckE; rw [this, if_neg (by omega)]⟩⟩
        clear CS
        go_wp2_with fail
        go_ret2
        exact ⟨by rw [HF.out.1, HF.out.2]; rfl, K5.out.2.1⟩
      | true =>
        have HF : Kp (ckF r (15 - (i + 1)) (i + 1) = ck r) := ⟨by rw [CS.out]; simp⟩
        clear CS
        go_wp2_with fail
        exact ⟨⟨i + 1, by have := HLT.out; omega, by go_num, HF, K5⟩, by have := HLT.out; simp [intOf]; omega⟩
    · have hi : i = 15 := by omega
      subst hi
      have HF : Kp (nmA (ck r) = ⟨#[]⟩ ∧ ckE r = 0) := ⟨by
        have : ck r = 15 := C3.out.symm
        exact ⟨by rw [this]; rfl, by unfold ckE; rw [if_pos this]⟩⟩
      have K4 := Kp.mk K3.out.2.1
      clear K3 hlt C3
      go_wp2_with fail
      go_ret2
      exact ⟨by rw [HF.out.1, HF.out.2]; rfl, K4.out⟩
/-- The number that a text of digits is. -/
def numV (s : ByteArray) : Option Int := match Lib.atoiAll s.data.toList with
  | .ok v => if 0 ≤ v ∧ Lib.itoa v = s.data.toList then some v else none
  | _ => none
theorem str_eq (a b : ByteArray) : (a.toList == b.toList) = decide (a.data.toList = b.data.toList) := by
  rw [ByteArray.toList_eq, ByteArray.toList_eq]
  by_cases h : a.data.toList = b.data.toList
  · rw [h]; simp
  · rw [decide_eq_false h]; simpa using h
theorem below_atoi {w w' : World} (h : w' = w ∨ ∃ t, w' = Lib.bytesWorld w 5 t) : Below w.heap.size w w' := by
  rcases h with rfl | ⟨t, rfl⟩
  · exact Below.refl _ _
  · exact Joins.below_bytesWorld _ w 5 t (Nat.le_refl _)
theorem itoa_ok (n : Int) (h : -9223372036854775808 ≤ n ∧ n ≤ 9223372036854775807) (w : World) (hk : Kon w) : Calls Tryd.prog 33 #[.int .i64 n] w fun r w' => r = .returned (.string ⟨(Lib.itoa n).toArray⟩) ∧ Below w.heap.size w w' :=
  (Tryd.strconv_Itoa n h.1 h.2 w hk.tab).mono fun r w' hh => ⟨hh.1, by obtain ⟨k, os, e⟩ := hh.2; rw [e]; exact Lib.below_grow _ w (Nat.le_refl _) k os⟩
def PNum (s : ByteArray) (w : World) (e : Ending) (w' : World) : Prop := e = .returned (.tuple #[.int .i64 ((numV s).getD 0), .bool (numV s).isSome]) ∧ Below w.heap.size w w'
set_option maxHeartbeats 3200000 in
theorem pnum_any (s : ByteArray) (hs : s.size ≤ 281474976710656) (w : World) (hk : Kon w) : Calls Tryd.prog 26 #[.string s] w (PNum s w) := by
  have HK := Kp.mk hk
  cases ha : Lib.atoiAll s.data.toList with
  | ok v =>
    have hv : -9223372036854775808 ≤ v ∧ v ≤ 9223372036854775807 := Lib.atoiAll_bounds ha
    have HA := Tryd.strconv_Atoi_ok s (by omega) v ha w
    have HN : Kp (numV s = if 0 ≤ v ∧ Lib.itoa v = s.data.toList then some v else none) := ⟨by unfold numV; rw [ha]⟩
    clear ha hk
    by_cases h0 : v < 0
    · have HF : Kp (∀ w', Below w.heap.size w w' → PNum s w (.returned (.tuple #[.int .i64 0, .bool false])) w') := ⟨fun w' hb => ⟨by rw [HN.out, if_neg (by omega)]; rfl, hb⟩⟩
      clear HN
      go_enter Tryd.func26, Tryd.ntmps26
      go_wp2_with fail
      refine HA.mono ?_
      rintro e w1 ⟨rfl, hb⟩
      have K1 := Kp.mk (below_atoi hb)
      clear hb HA
      go_wp2_with fail
      go_ret2
      exact HF.out _ K1.out
    · have HI := fun wx hx => itoa_ok v hv wx hx
      have HS : Kp (((ByteArray.mk (Lib.itoa v).toArray).toList == s.toList) = decide (Lib.itoa v = s.data.toList)) := ⟨by rw [str_eq]⟩
      generalize (ByteArray.mk (Lib.itoa v).toArray) = Z at HI HS
      by_cases he : Lib.itoa v = s.data.toList
      · have hq : (Z.toList == s.toList) = true := by rw [HS.out, decide_eq_true he]
        have HF : Kp (∀ w', Below w.heap.size w w' → PNum s w (.returned (.tuple #[.int .i64 v, .bool true])) w') := ⟨fun w' hb => ⟨by rw [HN.out, if_pos ⟨by omega, he⟩]; rfl, hb⟩⟩
        clear HN HS he
        go_enter Tryd.func26, Tryd.ntmps26
        go_wp2_with fail
        refine HA.mono ?_
        rintro e w1 ⟨rfl, hb⟩
        have K1 := Kp.mk (below_atoi hb)
        clear hb HA
        go_wp2_with fail
        refine (HI _ (HK.out.keep K1.out)).mono ?_
        rintro e w2 ⟨rfl, hb⟩
        have K2 := Kp.mk (K1.out.trans (hb.mono K1.out.size))
        clear hb
        go_wp2_with fail
        go_ret2
        exact HF.out _ K2.out
      · have hq : (Z.toList == s.toList) = false := by rw [HS.out, decide_eq_false he]
        have HF : Kp (∀ w', Below w.heap.size w w' → PNum s w (.returned (.tuple #[.int .i64 0, .bool false])) w') := ⟨fun w' hb => ⟨by rw [HN.out, if_neg (fun h => he h.2)]; rfl, hb⟩⟩
        clear HN HS he
        go_enter Tryd.func26, Tryd.ntmps26
        go_wp2_with fail
        refine HA.mono ?_
        rintro e w1 ⟨rfl, hb⟩
        have K1 := Kp.mk (below_atoi hb)
        clear hb HA
        go_wp2_with fail
        refine (HI _ (HK.out.keep K1.out)).mono ?_
        rintro e w2 ⟨rfl, hb⟩
        have K2 := Kp.mk (K1.out.trans (hb.mono K1.out.size))
        clear hb
        go_wp2_with fail
        go_ret2
        exact HF.out _ K2.out
  | range =>
    have HF : Kp (∀ w', Below w.heap.size w w' → PNum s w (.returned (.tuple #[.int .i64 0, .bool false])) w') := ⟨fun w' hb => ⟨by unfold numV; rw [ha]; rfl, hb⟩⟩
    obtain ⟨tp, p, hv⟩ := hk.rng
    have HA := Tryd.strconv_Atoi_range_var s hs ha tp p w hv
    clear ha hk hv
    generalize Lib.atoiSat s.data.toList = sat at HA
    go_enter Tryd.func26, Tryd.ntmps26
    go_wp2_with fail
    refine HA.mono ?_
    rintro e w1 ⟨N, rfl, _, _, hb⟩
    have K1 := Kp.mk hb
    clear hb HA
    go_wp2_with fail
    go_ret2
    exact HF.out _ K1.out
  | _ =>
    have HF : Kp (∀ w', Below w.heap.size w w' → PNum s w (.returned (.tuple #[.int .i64 0, .bool false])) w') := ⟨fun w' hb => ⟨by unfold numV; rw [ha]; rfl, hb⟩⟩
    obtain ⟨tp, p, hv⟩ := hk.syn
    have HA := Tryd.strconv_Atoi_syntax_var s hs (ha.trans rfl) tp p w hv
    clear ha hk hv
    go_enter Tryd.func26, Tryd.ntmps26
    go_wp2_with fail
    refine HA.mono ?_
    rintro e w1 ⟨N, rfl, _, _, hb⟩
    have K1 := Kp.mk hb
    clear hb HA
    go_wp2_with fail
    go_ret2
    exact HF.out _ K1.out
end Go.Proofs.YtcppmkblllappaaDoor
