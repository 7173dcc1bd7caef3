/-
  All counters; all as a text.
-/
import Derived.Test.YtlinkcbnjdelcaaDoorCnB
import Derived.Test.YtlinkcbnjdelcaaDoorShelf
import Derived.Lib.ItoaLen
import Derived.Lib.SmallJoins
import Derived.Lib.AppendIntMem
import Derived.Laws.Concat
namespace Go.Proofs.YtlinkcbnjdelcaaDoor
open Go.RowKit

abbrev lObj (f : Nat → Int) : Obj := .cells (cl f).toArray 2
theorem make19 (w : World) : (Instr.makeSlice 33 (.int .i64 19) (.int .i64 19)).run Tryd.prog w = .ok (.slice (some ⟨w.heap.size, 0, none⟩) 19 19) (w.alloc (lObj f0)) := by kernel_rfl
/-- The first k of f. -/
def cutF (f : Nat → Int) (k : Nat) : Nat → Int := fun i => if i < k then f i else 0
theorem cutF_set (f : Nat → Int) (k : Nat) : upd (cutF f k) k (f k) = cutF f (k + 1) := by
  funext i
  unfold upd cutF
  by_cases e : i = k
  · subst e; simp
  · rw [if_neg e]
    by_cases h : i < k
    · rw [if_pos h, if_pos (by omega)]
    · rw [if_neg h, if_neg (by omega)]
theorem cl_cut (f : Nat → Int) : cl (cutF f 19) = cl f := by
  unfold cl
  apply List.map_congr_left
  intro i hi
  have := List.mem_range.1 hi
  simp [cutF, this]
theorem cl_zero (f : Nat → Int) : cutF f 0 = f0 := by
  funext i
  simp [cutF, f0]
theorem getF_ok (f : Nat → Int) {i : Nat} (h : i < 19) : getF f i = f i := by
  unfold getF okB
  rw [if_pos (by simp; omega)]
  simp
def AllPost (f : Nat → Int) (w : World) (r : Ending) (w' : World) : Prop := r = .returned (.slice (some ⟨w.heap.size, 0, none⟩) 19 19) ∧ Blk w' w.heap.size (lObj f) ∧ Below w.heap.size w w'
set_option maxHeartbeats 3200000 in
theorem all_any (f : Nat → Int) (b : Nat) (w : World) (h : Blk w b (cObj f)) : Calls Tryd.prog 10 #[.pointer (some ⟨b, 0, none⟩)] w (AllPost f w) := by
  have hmk := make19
  have H := Kp.mk h
  obtain ⟨B, hB⟩ : ∃ B, B = w.heap.size := ⟨_, rfl⟩
  have HB := Kp.mk hB
  obtain ⟨w1, hw1⟩ : ∃ w1, w1 = w.alloc (lObj f0) := ⟨_, rfl⟩
  have HW1 := Kp.mk hw1
  have K1 : Kp (Blk w1 B (lObj (cutF f 0)) ∧ Below w.heap.size w w1) := ⟨by rw [hw1, cl_zero]; exact ⟨Blk.newAt _ hB, more (Below.refl _ _) _⟩⟩
  clear h hB hw1
  go_enter Tryd.func10, Tryd.ntmps10
  go_wp2_with fail
  rw [← HW1.out, ← HB.out]
  go_loopw [8] (fun ct wr => ∃ i : Nat, i ≤ 19 ∧ ct = .int .i64 i ∧ Kp (Blk wr B (lObj (cutF f i)) ∧ Below w.heap.size w wr)) (fun ct _ => 19 - (intOf ct).toNat)
  case atStart => exact ⟨0, by omega, rfl, K1⟩
  case round =>
    clear K1
    obtain ⟨i, hi, rfl, K2⟩ := hrel
    by_cases hlt : i < 19
    · have hlt' : (i : Int) < 19 := by omega
      have HG := fun wx hx => get_any f b i wx hx
      rw [getF_ok f hlt] at HG
      have hb2 := H.out.keep K2.out.2
      have K3 : Kp (Blk (wr.setCell ⟨B, i, none⟩ (.int .i64 (f i))) B (lObj (cutF f (i + 1))) ∧ Below w.heap.size w (wr.setCell ⟨B, i, none⟩ (.int .i64 (f i)))) := ⟨by
        have := K2.out.1.set i (.int .i64 (f i))
        rwa [show (cl (cutF f i)).toArray.setIfInBounds i (.int .i64 (f i)) = (cl (cutF f (i + 1))).toArray by rw [List.setIfInBounds_toArray, cl_set, cutF_set]] at this, K2.out.2.setCell (p := ⟨B, i, none⟩) (by rw [HB.out]; exact Nat.le_refl _) _⟩
      have hc : ∃ v, wr.cell? ⟨B, i, none⟩ = some v := ⟨_, (K2.out.1.cell i).trans (by rw [List.getElem?_toArray, cl_at _ hlt])⟩
      obtain ⟨v0, hc⟩ := hc
      have hz : wr.frozen? ⟨B, i, none⟩ = false := K2.out.1.frozen i
      clear K2
      go_wp2_with fail
      refine (HG _ hb2).mono ?_
      rintro r w3 ⟨rfl, rfl⟩
      go_wp2_with fail
      exact ⟨⟨i + 1, by omega, by go_num, K3⟩, by simp [intOf]; omega⟩
    · have hi : i = 19 := by omega
      subst hi
      have KF : Kp (AllPost f w (.returned (.slice (some ⟨B, 0, none⟩) 19 19)) wr) := ⟨by rw [HB.out], by have h := K2.out.1; unfold lObj at h ⊢; rw [cl_cut] at h; rw [← HB.out]; exact h, K2.out.2⟩
      clear K2 hlt
      go_wp2_with fail
      go_ret
      exact KF.out

/-- What is told of a counter. -/
def partA (f : Nat → Int) (i : Nat) : ByteArray := (nmA i ++ ⟨#[61]⟩) ++ ⟨(Lib.itoa (f i)).toArray⟩
def itemsA (f : Nat → Int) (n : Nat) : List ByteArray := ((List.range n).filter fun i => f i != 0).map (partA f)
def sv (l : List ByteArray) : List Value := l.map .string
theorem items_no {f : Nat → Int} {i : Nat} (h : f i = 0) : itemsA f (i + 1) = itemsA f i := by
  unfold itemsA
  rw [List.range_succ, List.filter_append]
  simp [h]
theorem items_yes {f : Nat → Int} {i : Nat} (h : f i ≠ 0) : itemsA f (i + 1) = itemsA f i ++ [partA f i] := by
  unfold itemsA
  rw [List.range_succ, List.filter_append]
  simp [h]
theorem items_len (f : Nat → Int) (n : Nat) : (itemsA f n).length ≤ n := by
  unfold itemsA
  rw [List.length_map]
  exact Nat.le_trans (List.length_filter_le _ _) (by simp)
def I64s (f : Nat → Int) : Prop := ∀ i, -9223372036854775808 ≤ f i ∧ f i ≤ 9223372036854775807
theorem nmA_size (i : Nat) : (nmA i).size ≤ 9 := by
  by_cases h : i < 19
  · have : ∀ i : Fin 19, (nmA i).size ≤ 9 := by decide +kernel
    exact this ⟨i, h⟩
  · unfold nmA
    rw [List.getD_eq_getElem?_getD, List.getElem?_eq_none (by simpa [nmB] using h)]
    decide
theorem itoaA_size {n : Int} (h : -9223372036854775808 ≤ n ∧ n ≤ 9223372036854775807) : (ByteArray.mk (Lib.itoa n).toArray).size ≤ 21 := by
  have := Lib.itoa_length_le n h.1 h.2
  show (Lib.itoa n).toArray.size ≤ 21
  simpa using this
theorem partA_size {f : Nat → Int} (h : I64s f) (i : Nat) : (partA f i).size ≤ 31 := by
  unfold partA
  rw [ByteArray.size_append, ByteArray.size_append]
  have := nmA_size i
  have := itoaA_size (h i)
  have : (ByteArray.mk #[61]).size = 1 := rfl
  omega
theorem join_le : ∀ (l : List (List UInt8)) (sep : List UInt8) (k : Nat), (∀ x ∈ l, x.length ≤ k) → (Lib.join l sep).length ≤ l.length * (k + sep.length) := by
  intro l sep k h
  have ht : ∀ r : List (List UInt8), (∀ x ∈ r, x.length ≤ k) → (Lib.joinTail sep r).length ≤ r.length * (k + sep.length) := by
    intro r
    induction r with
    | nil => intro _; simp [Lib.joinTail]
    | cons x r ih =>
      intro hr
      have h1 := ih (fun y hy => hr y (List.mem_cons_of_mem _ hy))
      have h2 := hr x (List.mem_cons_self ..)
      unfold Lib.joinTail at h1 ⊢
      rw [List.map_cons, List.flatten_cons, List.length_append, List.length_append, List.length_cons, Nat.succ_mul]
      omega
  cases l with
  | nil => simp [Lib.join_nil]
  | cons x r =>
    rw [Lib.join_cons, List.length_append, List.length_cons, Nat.succ_mul]
    have h1 := ht r (fun y hy => h y (List.mem_cons_of_mem _ hy))
    have h2 := h x (List.mem_cons_self ..)
    omega
/-- All counters as a text. -/
def textA (f : Nat → Int) : ByteArray := ⟨(Lib.join ((itemsA f 19).map (·.data.toList)) [32]).toArray⟩
theorem info9 : (Tryd.prog.info? 9).map (fun i => (i.zero, i.size, i.bytes)) = some (some (.string ⟨#[]⟩), 1, 16) := by kernel_rfl
theorem build54 (x : ByteArray) (w : World) : (Instr.buildSlice 54 1 #[(0, .string x)]).run Tryd.prog w = .ok (.slice (some ⟨w.heap.size, 0, none⟩) 1 1) (w.alloc (.cells #[.string x] 9)) := by kernel_rfl
theorem sv_at {l : List ByteArray} {j : Nat} {x : ByteArray} (h : l[j]? = some x) : (sv l)[j]? = some (.string x) := by simp [sv, h]
theorem fmt_ok (n : Int) (h : -9223372036854775808 ≤ n ∧ n ≤ 9223372036854775807) (w : World) (hk : Kon w) : Calls Tryd.prog 22 #[.int .i64 n, .int .i64 10] w fun r w' => r = .returned (.string ⟨(Lib.itoa n).toArray⟩) ∧ Below w.heap.size w w' :=
  (Tryd.strconv_FormatInt_10 n h.1 h.2 w hk.tab).mono fun r w' hh => ⟨hh.1, by obtain ⟨k, os, e⟩ := hh.2; rw [e]; exact Lib.below_grow _ w (Nat.le_refl _) k os⟩
theorem name_ok {i : Nat} (h : i < 19) : nameS i = nmA i := by
  unfold nameS okB
  rw [if_pos (by simp; omega)]
  simp
set_option maxRecDepth 100000 in
set_option maxHeartbeats 6400000 in
theorem text_any (f : Nat → Int) (hf : I64s f) (b : Nat) (w : World) (h : Blk w b (cObj f)) (hk : Kon w) : Calls Tryd.prog 8 #[.pointer (some ⟨b, 0, none⟩)] w fun r w' => r = .returned (.string (textA f)) ∧ Below w.heap.size w w' := by
  obtain ⟨i0, hi, hz0, hz1, hz2⟩ := info_parts info9
  have HA := fun wx hx => all_any f b wx hx
  have H := Kp.mk h
  have HK := Kp.mk hk
  have HF := Kp.mk hf
  obtain ⟨B, hB⟩ : ∃ B, B = w.heap.size := ⟨_, rfl⟩
  have HB := Kp.mk hB
  clear hB hk hf
  go_enter Tryd.func8, Tryd.ntmps8
  go_wp2_with fail
  refine (HA _ h).mono ?_
  rintro r w1 ⟨rfl, hL, hb⟩
  rw [← HB.out] at hL hb ⊢
  have K1 : Kp (w1.ownsRow (B + 1) 9 1 (.slice none 0 0) (itemsA f 0).length (sv (itemsA f 0)) ∧ Blk w1 B (lObj f) ∧ Below B w w1) := ⟨World.ownsRow_nil _ _ _ _, hL, hb⟩
  clear hL hb HA h
  go_wp2_with fail
  go_loopw [3, 4, 5, 9] (fun v _ _ ct wr => ∃ i : Nat, i ≤ 19 ∧ ct = .int .i64 i ∧ Kp (wr.ownsRow (B + 1) 9 1 v (itemsA f i).length (sv (itemsA f i)) ∧ Blk wr B (lObj f) ∧ Below B w wr)) (fun _ _ _ ct _ => 19 - (intOf ct).toNat)
  case atStart => exact ⟨0, by omega, rfl, K1⟩
  case round =>
    clear K1
    obtain ⟨i, hi19, rfl, K2⟩ := hrel
    by_cases hlt : i < 19
    · have hlt' : (i : Int) < 19 := by omega
      have HLT := Kp.mk hlt
      have hc : wr.cell? ⟨B, i, none⟩ = some (.int .i64 (f i)) := (K2.out.2.1.cell i).trans (by rw [List.getElem?_toArray, cl_at _ hlt])
      by_cases h0 : f i = 0
      · have HI : Kp (itemsA f (i + 1) = itemsA f i) := ⟨items_no h0⟩
        rw [h0] at hc
        clear hlt
        go_wp2_with fail
        exact ⟨⟨i + 1, by have := HLT.out; omega, by go_num, by rw [HI.out]; exact K2⟩, by have := HLT.out; simp [intOf]; omega⟩
      · have HI : Kp (itemsA f (i + 1) = itemsA f i ++ [partA f i]) := ⟨items_yes h0⟩
        have hne : (f i != 0) = true := by simp [h0]
        have HN : Kp (∀ wx, Below B w wx → Calls Tryd.prog 13 #[.int .i64 i] wx fun r w' => r = .returned (.string (nmA i)) ∧ wx = w') := ⟨fun wx hb => by
          have := name_any i wx (HK.out.keep (by rw [← HB.out]; exact hb))
          rwa [name_ok HLT.out] at this⟩
        have HFM : Kp (∀ wx, Below B w wx → Calls Tryd.prog 22 #[.int .i64 (f i), .int .i64 10] wx fun r w' => r = .returned (.string ⟨(Lib.itoa (f i)).toArray⟩) ∧ Below wx.heap.size wx w') := ⟨fun wx hb => fmt_ok (f i) (HF.out i) wx (HK.out.keep (by rw [← HB.out]; exact hb))⟩
        have s1 := nmA_size i
        have s2 := itoaA_size (HF.out i)
        have HP : Kp (partA f i = (nmA i ++ ⟨#[61]⟩) ++ ⟨(Lib.itoa (f i)).toArray⟩) := ⟨rfl⟩
        obtain ⟨y, hy⟩ : ∃ y, y = nmA i := ⟨_, rfl⟩
        obtain ⟨z, hz⟩ : ∃ z : ByteArray, z = ⟨(Lib.itoa (f i)).toArray⟩ := ⟨_, rfl⟩
        obtain ⟨x, hx⟩ : ∃ x, x = f i := ⟨_, rfl⟩
        rw [← hy] at HN HP s1
        rw [← hz] at HFM HP s2
        rw [← hx] at HFM hc hne
        have a1 : ∀ w, (Op.stringOp .add y ⟨#[61]⟩).run Tryd.prog w = .ok (.string (y ++ ⟨#[61]⟩)) w := fun w => run_string_add_sum w _ _ (by have : (ByteArray.mk #[61]).size = 1 := rfl; omega)
        have a2 : ∀ w, (Op.stringOp .add (y ++ ⟨#[61]⟩) z).run Tryd.prog w = .ok (.string ((y ++ ⟨#[61]⟩) ++ z)) w := fun w => run_string_add_sum w _ _ (by rw [ByteArray.size_append]; have : (ByteArray.mk #[61]).size = 1 := rfl; omega)
        have KL : Kp ((itemsA f i).length ≤ 19) := ⟨by have := items_len f i; omega⟩
        clear hy hz hx s1 s2 h0 hlt
        have HB2 := K2.out.2.2
        go_wp2_with fail
        refine (HN.out _ HB2).mono ?_
        rintro r w2 ⟨rfl, rfl⟩
        go_wp2_with fail
        refine (HFM.out _ HB2).mono ?_
        rintro r w3 ⟨rfl, hb⟩
        have K3 : Kp (w3.ownsRow (B + 1) 9 1 u3 (itemsA f i).length (sv (itemsA f i)) ∧ Blk w3 B (lObj f) ∧ Below B w w3) := ⟨ownsRow_below K2.out.1 hb, K2.out.2.1.keep hb, HB2.trans (hb.mono (Nat.le_of_lt K2.out.2.1.lt))⟩
        clear hb K2 HB2 hc
        obtain ⟨p, hp⟩ : ∃ p, p = (y ++ ⟨#[61]⟩) ++ z := ⟨_, rfl⟩
        rw [← hp] at a2 HP
        have HPE := Kp.mk hp
        clear hp
        go_wp2_with (first
          | (refine wpList_buildSlice_eq rfl 54 1 #[(0, .tmp 22)] rfl #[(0, .string p)] (by simp only [List.map_toArray, List.map_cons, List.map_nil]; rfl) (.slice (some ⟨w3.heap.size, 0, none⟩) 1 1) (w3.alloc (.cells #[.string p] 9)) (build54 p w3) ?_)
          | (at_builtin; refine wpList_append_own _ rfl _ _ 54 rfl (B + 1) 9 i0 (.string ⟨#[]⟩) 1 16 Tryd.underlying54 hi hz0 hz1 hz2 rfl (by decide) u3 (itemsA f i).length (sv (itemsA f i)) rfl (ownsRow_below K3.out.1 (more (Below.refl _ _) _)) ⟨w3.heap.size, 0, none⟩ 1 1 [.string p] rfl rfl ?c1 ?c2 ?c3 ?c4 ?c5 ?_
             case c1 =>
               intro j u hj
               match j, hj with
               | 0, hj => simp at hj; subst hj; simp [Addr.add]
             case c2 =>
               intro u hu
               simp at hu
               subst hu
               rfl
             case c3 => have := KL.out; unfold maxLen; omega
             case c4 => have := KL.out; omega
             case c5 => have := K3.out.2.1.lt; simp; omega
             intro v' w9 hown' hgrow _
             have hbl : Below (B + 1) w3 w9 := (more (Below.refl _ _) _ |>.mono K3.out.2.1.lt).trans (below_row_grown (Below.refl _ _) (by have := K3.out.2.1.lt; simp; omega) (ownsRow_below K3.out.1 (more (Below.refl _ _) _)) hgrow)
             have K9 : Kp (w9.ownsRow (B + 1) 9 1 v' (itemsA f (i + 1)).length (sv (itemsA f (i + 1))) ∧ Blk w9 B (lObj f) ∧ Below B w w9) := ⟨by rw [HI.out, HP.out]; simpa [sv] using hown', K3.out.2.1.upto hbl (Nat.lt_succ_self B), K3.out.2.2.trans (hbl.mono (Nat.le_succ B))⟩
             clear hown' hgrow hbl K3))
        exact ⟨⟨i + 1, by have := HLT.out; omega, by go_num, K9⟩, by have := HLT.out; simp [intOf]; omega⟩
    · have hi : i = 19 := by omega
      subst hi
      have hb2 := K2.out.2.2
      rcases K2.out.1.2 with ⟨e, h0⟩ | ⟨g, cap, cur, e, hgB, hg, g1, g2, g3, g4⟩
      · have hE : Kp (textA f = ⟨#[]⟩) := ⟨by unfold textA; rw [List.eq_nil_of_length_eq_zero h0]; rfl⟩
        have HB3 : Kp (Below w.heap.size w wr) := ⟨by rw [← HB.out]; exact hb2⟩
        subst e
        clear K2 hlt hb2 h0
        go_wp2_with fail
        refine (Tryd.strings_Join_none none 0 ⟨#[32]⟩ wr).mono ?_
        rintro r w2 ⟨rfl, rfl⟩
        go_wp2_with fail
        go_ret
        exact ⟨by rw [hE.out]; rfl, HB3.out⟩
      · subst e
        have HJ : Kp (Calls Tryd.prog 23 #[.slice (some ⟨g, 0, none⟩) (itemsA f 19).length cap, .string ⟨#[32]⟩] wr fun e w' => e = .returned (.string (textA f)) ∧ Below wr.heap.size wr w') := ⟨Tryd.strings_Join g 0 cap (itemsA f 19) ⟨#[32]⟩ wr (fun j x hx => by
            have hj : j < (itemsA f 19).length := (List.getElem?_eq_some_iff.1 hx).1
            rw [cell_of_row wr g (0 + j) cur 9 (0, 0) hg]
            have h5 := sv_at hx
            rw [← g4, List.getElem?_take, if_pos (by omega)] at h5
            rw [Nat.zero_add, ← h5]
            simp) (Array.getElem?_eq_some_iff.1 hg).1 (by have := items_len f 19; omega) g1 (by
              refine Nat.le_trans (join_le _ _ 31 ?_) ?_
              · intro x hx
                obtain ⟨y, hy, rfl⟩ := List.mem_map.1 hx
                obtain ⟨i, _, rfl⟩ := List.mem_map.1 hy
                have := partA_size HF.out i
                simpa using this
              · have := items_len f 19
                simp
                omega)⟩
        have HB3 : Kp (Below w.heap.size w wr ∧ w.heap.size ≤ wr.heap.size) := ⟨by rw [← HB.out]; exact hb2, by rw [← HB.out]; exact Nat.le_of_lt K2.out.2.1.lt⟩
        clear K2 hlt hb2 hgB hg g1 g2 g3 g4
        go_wp2_with fail
        refine HJ.out.mono ?_
        rintro r w2 ⟨rfl, hb⟩
        have HB4 := Kp.mk (HB3.out.1.trans (hb.mono HB3.out.2))
        clear hb HB3 HJ
        go_wp2_with fail
        go_ret
        exact ⟨rfl, HB4.out⟩
end Go.Proofs.YtlinkcbnjdelcaaDoor
