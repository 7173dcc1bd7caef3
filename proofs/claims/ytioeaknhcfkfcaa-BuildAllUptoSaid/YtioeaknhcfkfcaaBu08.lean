/-
  In and the document's In go together: plain facts on their bytes, places and errors.
  The contracts of In's short sums.
  The contract of the document's In's Sum.
  Field: numbers of eight bytes, short sums.
  What the texts of updates want besides (out of the Frame's).
  Rows of short sums (Eq, Bld, From, Same).
  Rows of short sums (OutC, OutD).
  Rows of short sums (Sums).
  Rows of short sums (RefD, RefE).
-/
import Derived.Test.YtioeaknhcfkfcaaBu07
import Derived.Stop.BytesEq
import Derived.Deep.MidRow
import Derived.Deep.WholeRow
import Derived.IntWalk
namespace Go.Proofs.Ytioeaknhcfkfcaa
open Go.RowKit

structure Rel (l : List Int) (e : Int) (B : List Int) (at' : Nat) : Prop where
  ok : e = 0 → l = B.drop at'
  bad : e ≠ 0 → l = []

theorem Rel.next {l B : List Int} {e : Int} {at' : Nat} (h : Rel l e B at') (k : Nat) : nextP l e k = rawP B at' e k ∧ nextE l e k = rawE B at' e k ∧ Rel (nextL l e k) (rawE B at' e k) B (rawA B at' e k) := by
  by_cases he : e = 0
  · have hl := h.ok he
    have hlen : l.length = B.length - at' := by rw [hl, List.length_drop]
    by_cases hk : k ≤ l.length
    · have hk2 : k ≤ B.length - at' := by omega
      refine ⟨?_, ?_, ?_⟩
      · unfold nextP rawP; rw [if_pos ⟨he, hk⟩, if_pos ⟨he, hk2⟩, hl]
      · unfold nextE rawE; rw [if_neg (by omega), if_neg (by omega)]
      · have h1 : rawE B at' e k = 0 := by unfold rawE; rw [if_neg (by omega), he]
        rw [h1]
        refine ⟨fun _ => ?_, fun h => absurd rfl h⟩
        unfold nextL rawA
        rw [if_pos ⟨he, hk⟩, if_pos ⟨he, hk2⟩, hl, List.drop_drop]
    · have hk2 : ¬ k ≤ B.length - at' := by omega
      refine ⟨?_, ?_, ?_⟩
      · unfold nextP rawP; rw [if_neg (by omega), if_neg (by omega)]
      · unfold nextE rawE; rw [if_pos ⟨he, by omega⟩, if_pos ⟨he, by omega⟩]
      · have h1 : rawE B at' e k = 9 := by unfold rawE; rw [if_pos ⟨he, by omega⟩]
        rw [h1]
        refine ⟨fun h => absurd h (by decide), fun _ => ?_⟩
        unfold nextL
        rw [if_neg (by omega)]
  · refine ⟨?_, ?_, ?_⟩
    · unfold nextP rawP; rw [if_neg (by omega), if_neg (by omega)]
    · unfold nextE rawE; rw [if_neg (by omega), if_neg (by omega)]
    · have h1 : rawE B at' e k = e := by unfold rawE; rw [if_neg (by omega)]
      rw [h1]
      refine ⟨fun h => absurd h he, fun _ => ?_⟩
      unfold nextL
      rw [if_neg (by omega)]
theorem Rel.fail {l B : List Int} {e : Int} {at' : Nat} (h : Rel l e B at') (f : Int) : Rel (failL l e f) (failE e f) B at' := by
  unfold failL failE
  by_cases hc : e = 0 ∧ f ≠ 0
  · rw [if_pos hc, if_pos hc]
    exact ⟨fun h => absurd h hc.2, fun _ => rfl⟩
  · rw [if_neg hc, if_neg hc]
    exact h
theorem Rel.left {l B : List Int} {e : Int} {at' : Nat} (h : Rel l e B at') : l.length = rleft B at' e := by
  unfold rleft
  by_cases he : e = 0
  · rw [if_pos he, h.ok he, List.length_drop]
  · rw [if_neg he, h.bad he]; rfl

/-- Many, against the document's number. -/
theorem Rel.many {l B : List Int} {e : Int} {at' : Nat} (h : Rel l e B at') (k : Nat) (hk : k ≤ 2) (hb : Bytes l) (most : Int) :
    manyB l e k most = decide ((if most < 0 then 0 else most) < numOf (rawP B at' e k)) := by
  unfold manyB
  rw [(h.next k).1]
/-- Behind an error nothing is told. -/
theorem rawP_bad {B : List Int} {at' : Nat} {e : Int} {k : Nat} (h : rawE B at' e k ≠ 0) : rawP B at' e k = [] := by
  unfold rawP
  unfold rawE at h
  split at h <;> rw [if_neg (by omega)]
theorem numOf_pos_ok {B : List Int} {at' : Nat} {e : Int} {k : Nat} {most : Int} (h : decide ((if most < 0 then 0 else most) < numOf (rawP B at' e k)) = true) : rawE B at' e k = 0 := by
  false_or_by_contra
  rename_i hne
  rw [rawP_bad hne, numOf_nil] at h
  have := of_decide_eq_true h
  split at this <;> omega

theorem rawA_fit {B : List Int} {at' k : Nat} (h : k ≤ B.length - at') : rawA B at' 0 k = at' + k := if_pos ⟨rfl, h⟩
theorem rawE_fit {B : List Int} {at' k : Nat} (h : k ≤ B.length - at') : rawE B at' 0 k = 0 := if_neg (by omega)
theorem rawE_short {B : List Int} {at' k : Nat} (h : B.length - at' < k) : rawE B at' 0 k = 9 := if_pos ⟨rfl, h⟩
theorem rawE_err {B : List Int} {at' k : Nat} {e : Int} (h : e ≠ 0) : rawE B at' e k = e := if_neg (by omega)
theorem rawP_fit {B : List Int} {at' k : Nat} (h : k ≤ B.length - at') : rawP B at' 0 k = (B.drop at').take k := if_pos ⟨rfl, h⟩
theorem rawP_short {B : List Int} {at' k : Nat} (h : B.length - at' < k) : rawP B at' 0 k = [] := if_neg (by omega)
theorem rawP_err {B : List Int} {at' k : Nat} {e : Int} (h : e ≠ 0) : rawP B at' e k = [] := if_neg (by omega)

theorem Rel.blob {l B : List Int} {e : Int} {at' : Nat} (h : Rel l e B at') (hb : Bytes l) (hB : Bytes B) (most : Int) :
    blobP l e most = rblobP B at' e most ∧ blobE l e most = rblobE B at' e most ∧ Rel (blobL l e most) (rblobE B at' e most) B (rblobA B at' e most) := by
  obtain ⟨hp, he2, hr⟩ := h.next 2
  obtain ⟨hc1, hc2⟩ := cnt2_is hB at' e
  obtain ⟨m, hmm⟩ : ∃ m : Int, (if 4096 < most then 4096 else most) = m := ⟨_, rfl⟩
  have hm := h.many 2 (by omega) hb m
  have hov : manyB l e 2 m = decide (overF most (cnt2 B at' e) = true ∨ 4096 < cnt2 B at' e) := by
    rw [hm, hc1]
    unfold overF
    rw [← hmm, Bool.eq_iff_iff, decide_eq_true_eq, decide_eq_true_eq, decide_eq_true_eq]
    (repeat' split) <;> omega
  have hn0 : rawE B at' e 2 ≠ 0 → cnt2 B at' e = 0 := fun hz => by unfold cnt2; rw [rawP_bad hz]; rfl
  have hov0 : manyB l e 2 m = true → rawE B at' e 2 = 0 := fun ho => numOf_pos_ok (by rw [← hm]; exact ho)
  have hR : manyR l e 2 m = (if manyB l e 2 m then (0 : Int) else ((cnt2 B at' e : Nat) : Int)) := by unfold manyR; rw [hp, hc1]
  have hL : manyL l e 2 m = if manyB l e 2 m then failL (nextL l e 2) (rawE B at' e 2) 8 else nextL l e 2 := by unfold manyL; rw [he2]
  have hE : manyE l e 2 m = if manyB l e 2 m then failE (rawE B at' e 2) 8 else rawE B at' e 2 := by unfold manyE; rw [he2]
  have hF : rblobF B at' e most = if rawE B at' e 2 = 0 ∧ (overF most (cnt2 B at' e) = true ∨ 4096 < cnt2 B at' e) then 8 else rawE B at' e 2 := rfl
  unfold blobP blobE blobL blobN rblobP rblobE rblobA
  rw [hmm]
  generalize manyB l e 2 m = mB at *
  generalize rblobF B at' e most = f at *
  generalize rawE B at' e 2 = e2 at *
  generalize rawA B at' e 2 = a2 at *
  generalize cnt2 B at' e = n at *
  generalize manyR l e 2 m = mR at *
  generalize manyL l e 2 m = mL at *
  generalize manyE l e 2 m = mE at *
  generalize nextL l e 2 = l2 at *
  cases mB with
  | true =>
    have hz := hov0 rfl
    subst hz
    have hc := of_decide_eq_true hov.symm
    rw [if_pos ⟨rfl, hc⟩] at hF
    rw [if_pos rfl] at hR hL hE
    rw [failL_yes rfl (by decide)] at hL
    rw [failE_yes rfl (by decide)] at hE
    rw [hR, hL, hE, hF]
    rw [rawP_err (by decide), rawE_err (by decide)]
    refine ⟨?_, ?_, fun h => absurd h (by decide), fun _ => ?_⟩
    · unfold nextP; rw [if_neg (by simp)]
    · unfold nextE; rw [if_neg (by simp)]
    · unfold nextL; rw [if_neg (by simp)]
  | false =>
    have hc := of_decide_eq_false hov.symm
    rw [if_neg (by rintro ⟨_, h⟩; exact hc h)] at hF
    rw [if_neg (by decide)] at hR hL hE
    rw [hR, hL, hE, hF, Int.toNat_natCast]
    exact ⟨(hr.next n).1, (hr.next n).2.1, (hr.next n).2.2⟩
end Go.Proofs.Ytioeaknhcfkfcaa

namespace Go.Proofs.Ytioeaknhcfkfcaa
open Go.RowKit

abbrev z16 : List Int := [0, 0, 0, 0, 0, 0, 0, 0, 0, 0, 0, 0, 0, 0, 0, 0]
abbrev z16o : Obj := .cells #[.int .u8 0, .int .u8 0, .int .u8 0, .int .u8 0, .int .u8 0, .int .u8 0, .int .u8 0, .int .u8 0, .int .u8 0, .int .u8 0, .int .u8 0, .int .u8 0, .int .u8 0, .int .u8 0, .int .u8 0, .int .u8 0] 70
/-- A short sum, as a value. -/
def sumV (l : List Int) : Value := .agg (bv l).toArray
/-- What Sum answers. -/
def sumP (l : List Int) (e : Int) : List Int := if e = 0 ∧ 16 ≤ l.length then l.take 16 else z16
theorem sumP_is (l : List Int) (e : Int) : splice (bv z16) 0 (bv (nextP l e 16)) = bv (sumP l e) := by
  unfold sumP nextP
  split
  · rename_i h
    have h2 : (l.take 16).length = 16 := by rw [List.length_take]; omega
    unfold splice
    rw [List.length_map, h2]
    simp
  · rfl
theorem sumP_len (l : List Int) (e : Int) : (sumP l e).length = 16 := by
  unfold sumP
  split
  · rw [List.length_take]; omega
  · rfl
theorem bv_all (l : List Int) : (bv l).toArray.all (·.oneCell') = true := Array.all_eq_true_iff_forall_mem.2 fun v hv => bv_one l v (by simpa using hv)

theorem info51 : (Try.prog.info? 70).map (·.size) = some 16 := by kernel_rfl
theorem cells51 {l : List Int} (h : l.length = 16) : (Try.prog.info? 70).map (·.size) = some (bv l).toArray.size := by
  have e : (bv l).toArray.size = 16 := by simp [h]
  rw [e]
  exact info51
theorem size51 {l : List Int} (h : l.length = 16) : (#[Value.int .u8 0, .int .u8 0, .int .u8 0, .int .u8 0, .int .u8 0, .int .u8 0, .int .u8 0, .int .u8 0, .int .u8 0, .int .u8 0, .int .u8 0, .int .u8 0, .int .u8 0, .int .u8 0, .int .u8 0, .int .u8 0] : Array Value).size = (bv l).toArray.size := by
  simp [h]
theorem min16 {l : List Int} {e : Int} {n : Nat} (h : n = (nextP l e 16).length) : (bv (nextP l e 16)).length = Nat.min n 16 := by
  have := nextP_len l e 16
  rw [List.length_map, h]
  exact (Nat.min_eq_left this).symm
theorem pos16 {w : World} {M A : Nat} {a : Option Addr} {n cap : Nat} {l : List Int} (h : HoldsB w M (.slice a n cap) l) (h0 : 0 < (bv l).length) :
    (some (⟨A, 0, none⟩ : Addr)) = some ⟨A, 0, none⟩ ∧ ∃ ad, a = some ad ∧ ∀ j u, (bv l)[j]? = some u → w.cell? (ad.add j) = some u := ⟨rfl, h.source h0⟩
theorem fit16 (l : List Int) (e : Int) : 0 + (bv (nextP l e 16)).length ≤ (bv z16).length := by
  have := nextP_len l e 16
  simp
  omega

set_option maxRecDepth 100000 in
set_option maxHeartbeats 1600000 in
theorem isum_any (M I : Nat) (l : List Int) (e : Int) (w : World) (h : InIs w M I l e) :
    Calls Try.prog 58 #[.pointer (some ⟨I, 0, none⟩)] w fun r w' => r = .returned (sumV (sumP l e)) ∧ InStep M I (nextL l e 16) (nextE l e 16) w w' := by
  have hI := h.lt
  go_enter Try.func58, Try.ntmps58
  go_wp2_with fail
  have HI := Lib.hid ((h.keep (more (Below.refl _ _) z16o)).keep (more (Below.refl _ _) z16o))
  have hbA := (Blk.new w z16o).old z16o
  have hbB : Blk ((w.alloc z16o).alloc z16o) (w.heap.size + 1) z16o := Blk.newAt _ (by simp)
  have hE : Below w.heap.size w ((w.alloc z16o).alloc z16o) := more (more (Below.refl _ _) _) _
  have hS : w.heap.size + 2 ≤ ((w.alloc z16o).alloc z16o).heap.size := by simp
  have HBA := Lib.hid hbA
  have HBB := Lib.hid hbB
  have HE := Lib.hid hE
  clear hbA hbB hE h
  revert HI HBA HBB HE hS
  generalize (w.alloc z16o).alloc z16o = W0
  intro HI hS HBA HBB HE
  generalize hA : w.heap.size = A at *
  have HA := Lib.hid hA
  clear hA
  have hIA : A + 1 ≠ I := by omega
  go_region_law (first
    | (refine step_copy_splice rfl (.tmp 4) (.tmp 6) 39 39 rfl 5 Try.underlying39 (by kernel_rfl) _ _ _ _ _ _ (by simp [Act.eval, Act.put]; rfl) (by simp [Act.eval, Act.put]; rfl) (A + 1) 0 (bv z16) 70 HG.out (bv (nextP l e 16)) HCN.out HPOS.out HFIT.out (bv_one _) (A + 1) w2 (Below.refl _ _) (Nat.le_refl _) ?_; intro w4 hg4 hb4)
    | (go_simp; go_at_call 70; refine (next_any M I l e 16 _ HI.out.drew (by omega)).mono ?_; rintro r w2 ⟨v, rfl, hv, h2⟩; obtain ⟨a, n, cap, rfl, hn⟩ := hv.slice; have H2 := Lib.hid h2.undrew; have HG := Lib.hid (H2.out.keep HBB.out hIA); have HCN := Lib.hid (min16 hn); have HPOS := Lib.hid (pos16 (A := A + 1) hv); have HFIT := Lib.hid (fit16 l e); clear hv h2 hn))
  all_goals
    have H4 : Hid (InStep M I (nextL l e 16) (nextE l e 16) w w4) := (InStep.ahead (by rw [HA.out]; exact HE.out) H2.out).upto hb4 (by rw [HA.out]; omega) (by rw [HA.out]; omega)
    have HA4 := Lib.hid ((H2.out.keep HBA.out (show A ≠ I by omega)).upto hb4 (Nat.lt_succ_self A))
    have HG4 : Hid (w4.heap[A + 1]? = some (.cells (bv (sumP l e)).toArray 70 (0, 0))) := by
      have := hg4.out
      rw [sumP_is] at this
      exact this
    clear hg4 hb4
    have hc16 := Lib.hid (cells51 (sumP_len l e))
    have H5 := Lib.hid (H4.out.upto (Below.row (Below.refl A w4) (Nat.le_refl A) (bv (sumP l e)).toArray) (by rw [HA.out]; exact Nat.le_refl _) (by rw [HA.out]; omega))
    have HA5 := Lib.hid (HA4.out.setRow (bv (sumP l e)).toArray)
    go_wp2_with (first
      | (refine wpList_load_row rfl 70 (.tmp 3) rfl (A + 1) rfl 70 (bv (sumP l e)).toArray (0, 0) _ HG4.out Try.underlying70 rfl hc16.out ?_)
      | (refine wpList_store_row rfl 70 (.tmp 2) (.tmp 8) rfl A (bv (sumP l e)).toArray rfl rfl 70 _ HA4.out hc16.out (size51 (sumP_len l e)) (bv_all _) ?_))
    refine bodyPost_ret (v := sumV (sumP l e)) (results_cell_row Try.results58 _ _ A 70 _ (0, 0) _ rfl HA5.out Try.underlying70 rfl hc16.out) rfl ⟨rfl, H5.out⟩
end Go.Proofs.Ytioeaknhcfkfcaa

namespace Go.Proofs.Ytioeaknhcfkfcaa
open Go.RowKit

abbrev z16p : Obj := .cells #[.int .u8 0, .int .u8 0, .int .u8 0, .int .u8 0, .int .u8 0, .int .u8 0, .int .u8 0, .int .u8 0, .int .u8 0, .int .u8 0, .int .u8 0, .int .u8 0, .int .u8 0, .int .u8 0, .int .u8 0, .int .u8 0] 27
def rsumP (B : List Int) (at' : Nat) (e : Int) : List Int := if e = 0 ∧ 16 ≤ B.length - at' then (B.drop at').take 16 else z16
theorem rsumP_len (B : List Int) (at' : Nat) (e : Int) : (rsumP B at' e).length = 16 := by
  unfold rsumP
  split
  · rw [List.length_take, List.length_drop]; omega
  · rfl
theorem info42 : (Try.prog.info? 27).map (·.size) = some 16 := by kernel_rfl
theorem cells42 {l : List Int} (h : l.length = 16) : (Try.prog.info? 27).map (·.size) = some (bv l).toArray.size := by
  have e : (bv l).toArray.size = 16 := by simp [h]
  rw [e]
  exact info42
/-- The array behind i rounds. -/
def fill16 (p : List Int) (i : Nat) : List Int := p.take i ++ List.replicate (16 - i) 0
theorem fill16_len {p : List Int} {i : Nat} (h : i ≤ p.length) (h2 : i ≤ 16) : (fill16 p i).length = 16 := by
  unfold fill16
  rw [List.length_append, List.length_take, List.length_replicate]
  omega
theorem fill16_step {p : List Int} {i : Nat} (h : i < p.length) (h2 : i < 16) : (bv (fill16 p i)).toArray.setIfInBounds i (.int .u8 (p.getD i 0)) = (bv (fill16 p (i + 1))).toArray := by
  rw [List.setIfInBounds_toArray]
  congr 1
  unfold fill16 bv
  rw [List.map_append, List.map_append, List.set_append_right _ _ (by rw [List.length_map, List.length_take]; omega), List.length_map, List.length_take, Nat.min_eq_left (by omega), Nat.sub_self,
    show 16 - i = (16 - (i + 1)) + 1 by omega, List.replicate_succ, List.map_cons, List.set_cons_zero, List.take_succ_eq_append_getElem h, List.map_append, List.append_assoc, List.getD_eq_getElem?_getD, List.getElem?_eq_getElem h]
  rfl
theorem fill16_all {p : List Int} (h : p.length = 16) : fill16 p 16 = p := by
  unfold fill16
  rw [List.take_of_length_le (by omega)]
  simp

end Go.Proofs.Ytioeaknhcfkfcaa

namespace Go.Proofs.Ytioeaknhcfkfcaa
open Go.RowKit

end Go.Proofs.Ytioeaknhcfkfcaa

namespace Go.Proofs.Ytioeaknhcfkfcaa
open Go.RowKit

theorem bv_cells {p : List Int} (h : Bytes p) : (p.map fun n => UInt8.ofNat n.toNat).map Extern.Stop.cell = kv .u8 p := by
  rw [List.map_map]
  refine List.map_congr_left fun x hx => ?_
  have := h x hx
  obtain ⟨m, rfl⟩ : ∃ m : Nat, x = m := ⟨x.toNat, by omega⟩
  simp only [Function.comp_def, Extern.Stop.cell, Int.toNat_natCast, UInt8.toNat_ofNat']
  congr 1
  have hm : m % 2 ^ 8 = m := Nat.mod_eq_of_lt (by omega)
  rw [hm]
  rfl
theorem wp_store_rowD {P : Program} {o : Oper} {a : Act} {w : World} {K : Act → World → Prop} {Q : Exit → Act → World → Prop} (hd : o.dst = none) (ty : TypeId) (x y : Operand) (ho : o.op = .store ty x y)
    (g : Nat) (cells : Array Value) (hx : a.eval x = .pointer (some ⟨g, 0, none⟩)) (hy : a.eval y = .agg cells)
    (t : TypeId) (cs : Array Value) (hg : w.heap[g]? = some (.cells cs t (0, 0))) (hi : (P.info? ty).map (·.size) = some cells.size)
    (hs : cs.size = cells.size) (h1 : cells.all (·.oneCell') = true) (h : K a (w.setRow g cells)) : o.wp P a w K Q := by
  refine wp_store_row ty x y ho g cells hx hy t cs hg hi hs h1 ?_
  rw [hd]
  exact h
/-- A store into a box of a slice and a bool leaves bytes as they are. -/
theorem HoldsB.boxed {w : World} {M g : Nat} {u : Value} {l : List Int} {s : Value} {b : Bool} {t : TypeId} (h : HoldsB w M u l) (hb : Blk w g (.cells #[s, .bool b] t)) (hs : ∀ n, s ≠ .int .u8 n) (cs : Array Value) : HoldsB (w.setRow g cs) M u l := by
  obtain ⟨a, cap, h1, h2, h3, h4, h5, h6, h7⟩ := h
  refine ⟨a, cap, h1, h2, h3, h4, fun x hx h0 => ⟨(h5 x hx h0).1, (h5 x hx h0).2.1, by simpa [World.setRow] using (h5 x hx h0).2.2⟩, fun x i hx hi => ?_, h7⟩
  have h8 := h6 x i hx hi
  by_cases e : x.block = g
  · exfalso
    rw [e, hb.cell (x.off + i)] at h8
    match x.off + i, h8 with
    | 0, h8 => exact hs _ (by simpa using h8)
    | 1, h8 => simp at h8
    | k + 2, h8 => simp at h8
  · have : (w.setRow g cs).cell? ⟨x.block, x.off + i, none⟩ = w.cell? ⟨x.block, x.off + i, none⟩ := World.cell?_of_block (setRow_other _ _ _ _ e)
    rw [this]
    exact h8
theorem results_tmp2U {P : Program} {fn : Func} {p q : Tmp} (h : fn.results = #[.tmp p, .tmp q]) (tmps : Array Value) (w : World) (u v : Value) (hp : tmps.getD p undef = u := by rfl) (hq : tmps.getD q undef = v := by rfl) :
    (results fn tmps).run P w = .ok (.tuple #[u, v]) w := by
  have hp' : tmps[p]?.getD undef = u := by simpa using hp
  have hq' : tmps[q]?.getD undef = v := by simpa using hq
  simp [results, h, hp', hq']
theorem Turn.ofRow {w : World} {g : Nat} {old : Array Value} {t : TypeId} (h : Blk w g (.cells old t)) (cs : Array Value) : Turn g (.cells cs t) w (w.setRow g cs) :=
  ⟨rfl, rfl, rfl, by simp [World.setRow], Blk.setRow h cs, fun k _ hne => setRow_other w g k cs hne⟩
theorem ownsRow_off {w w' : World} {base b size n : Nat} {e : TypeId} {v : Value} {xs : List Value} {o : Obj} (h : w.ownsRow base e size v n xs) (hT : Turn b o w w') (hb : v.ownBlock ≠ some b) : w'.ownsRow base e size v n xs := by
  refine h.kept hT.grown ?_
  cases hv : v.ownBlock with
  | none => exact .inl rfl
  | some k =>
    refine .inr fun e => hb ?_
    rw [hv]
    simpa using e
end Go.Proofs.Ytioeaknhcfkfcaa

namespace Go.Proofs.Ytioeaknhcfkfcaa
open Go.RowKit

theorem info42' : (Try.prog.info? 27).map (fun i => (i.zero, i.size, i.bytes)) = some (some (.agg #[.int .u8 0, .int .u8 0, .int .u8 0, .int .u8 0, .int .u8 0, .int .u8 0, .int .u8 0, .int .u8 0, .int .u8 0, .int .u8 0, .int .u8 0, .int .u8 0, .int .u8 0, .int .u8 0, .int .u8 0, .int .u8 0]), 16, 16) := by kernel_rfl
theorem info51' : (Try.prog.info? 70).map (fun i => (i.zero, i.size, i.bytes)) = some (some (.agg #[.int .u8 0, .int .u8 0, .int .u8 0, .int .u8 0, .int .u8 0, .int .u8 0, .int .u8 0, .int .u8 0, .int .u8 0, .int .u8 0, .int .u8 0, .int .u8 0, .int .u8 0, .int .u8 0, .int .u8 0, .int .u8 0]), 16, 16) := by kernel_rfl
theorem eqIn51 {p : List Int} (hb : Bytes p) (h : p.length = 16) (w : World) : (Op.equalIn 10000 70 (.agg (bv p).toArray) (.agg (bv p).toArray)).run Try.prog w = .ok true w := by
  have := run_equalIn_bytes (P := Try.prog) w 9998 70 5 16 Try.underlying70 Try.underlying5 size5 (p.map fun n => UInt8.ofNat n.toNat) (p.map fun n => UInt8.ofNat n.toNat) (by simp [h]) (by simp [h])
  rw [bv_cells hb] at this
  simpa using this
theorem eqIn42 {p : List Int} (hb : Bytes p) (h : p.length = 16) (w : World) : (Op.equalIn 10000 27 (.agg (bv p).toArray) (.agg (bv p).toArray)).run Try.prog w = .ok true w := by
  have := run_equalIn_bytes (P := Try.prog) w 9998 27 5 16 Try.underlying27 Try.underlying5 size5 (p.map fun n => UInt8.ofNat n.toNat) (p.map fun n => UInt8.ofNat n.toNat) (by simp [h]) (by simp [h])
  rw [bv_cells hb] at this
  simpa using this
theorem eql51 {p : List Int} (hb : Bytes p) (h : p.length = 16) (w : World) : (binOp .eql 70 (sumV p) (sumV p)).run Try.prog w = .ok (.bool true) w := by
  unfold sumV; rw [run_eql_struct, eqIn51 hb h]; rfl
theorem eql42 {p : List Int} (hb : Bytes p) (h : p.length = 16) (w : World) : (binOp .eql 27 (sumV p) (sumV p)).run Try.prog w = .ok (.bool true) w := by
  unfold sumV; rw [run_eql_struct, eqIn42 hb h]; rfl
theorem neq51 {p : List Int} (hb : Bytes p) (h : p.length = 16) (w : World) : (binOp .neq 70 (sumV p) (sumV p)).run Try.prog w = .ok (.bool false) w := by
  unfold sumV; rw [run_neq_struct, eqIn51 hb h]; rfl
theorem neq42 {p : List Int} (hb : Bytes p) (h : p.length = 16) (w : World) : (binOp .neq 27 (sumV p) (sumV p)).run Try.prog w = .ok (.bool false) w := by
  unfold sumV; rw [run_neq_struct, eqIn42 hb h]; rfl
theorem eqg51 (p q : List Int) (x y : Operand) (w : World) : (eqGuard .eql 70 x y (sumV p) (sumV q)).run Try.prog w = .ok () w := by kernel_rfl
theorem neg51 (p q : List Int) (x y : Operand) (w : World) : (eqGuard .neq 70 x y (sumV p) (sumV q)).run Try.prog w = .ok () w := by kernel_rfl
/-- The slice v holds n short sums, whose bytes are l. -/
def HoldsS (w : World) (v : Value) (n : Nat) (l : List Int) : Prop :=
  ∃ a cap, v = .slice a n cap ∧ l.length = n * 16 ∧ n ≤ maxLen ∧ Bytes l ∧ (0 < n → ∃ b off, a = some ⟨b, off, none⟩ ∧ b < w.heap.size ∧ ∀ j, j < n * 16 → w.cell? ⟨b, off + j, none⟩ = some (.int .u8 (l.getD j 0)))
theorem HoldsS.keep {w w' : World} {v : Value} {n : Nat} {l : List Int} (h : HoldsS w v n l) (hb : Below w.heap.size w w') : HoldsS w' v n l := by
  obtain ⟨a, cap, h1, h2, h3, h4, h5⟩ := h
  refine ⟨a, cap, h1, h2, h3, h4, fun h0 => ?_⟩
  obtain ⟨b, off, ha, hlt, hc⟩ := h5 h0
  exact ⟨b, off, ha, Nat.lt_of_lt_of_le hlt hb.size, fun j hj => (hb.cell (p := ⟨b, off + j, none⟩) hlt).trans (hc j hj)⟩
theorem HoldsS.ofRow {w : World} {base n : Nat} {t : TypeId} {v : Value} {l : List Int} (h7 : Bytes l) (hn : n ≤ maxLen) (hl : l.length = n * 16) (h : w.ownsRow base t 16 v n (bv l)) : HoldsS w v n l := by
  rcases h.2 with ⟨rfl, h0⟩ | ⟨g, cap, cur, rfl, hb, hg, h1, h2, h3, h4⟩
  · subst h0
    exact ⟨none, 0, rfl, hl, hn, h7, fun h => by omega⟩
  · refine ⟨_, cap, rfl, hl, hn, h7, fun _ => ⟨g, 0, rfl, (Array.getElem?_eq_some_iff.1 hg).1, fun j hj => ?_⟩⟩
    rw [cell_of_row w g (0 + j) cur t (0, 0) hg]
    have h5 : (bv l)[j]? = some (.int .u8 (l.getD j 0)) := by
      rw [List.getElem?_map, List.getD_eq_getElem?_getD, List.getElem?_eq_getElem (by omega)]
      simp
    rw [← h4, List.getElem?_take, if_pos hj] at h5
    simpa using h5
/-- The bytes of the i-th one. -/
def sumAt (l : List Int) (i : Nat) : List Int := (l.drop (i * 16)).take 16
theorem sumAt_len {l : List Int} {n i : Nat} (h : l.length = n * 16) (hi : i < n) : (sumAt l i).length = 16 := by
  unfold sumAt
  rw [List.length_take, List.length_drop]
  omega
theorem sumAt_bytes {l : List Int} (h : Bytes l) (i : Nat) : Bytes (sumAt l i) := (h.drop _).take _
theorem HoldsS.range {w : World} {a : Option Addr} {n m cap : Nat} {l : List Int} (h : HoldsS w (.slice a m cap) n l) {i : Nat} (hi : i < n) : ∃ b off, a = some ⟨b, off, none⟩ ∧ b < w.heap.size ∧ w.rangeAt b (off + i * 16) (bv (sumAt l i)) := by
  obtain ⟨a', cap', h1, h2, h3, h4, h5⟩ := h
  simp only [Value.slice.injEq] at h1
  obtain ⟨rfl, rfl, rfl⟩ := h1
  obtain ⟨b, off, rfl, hlt, hc⟩ := h5 (by omega)
  refine ⟨b, off, rfl, hlt, fun j v hv => ?_⟩
  unfold sumAt bv at hv
  have hj : j < 16 := by
    have := (List.getElem?_eq_some_iff.1 hv).1
    rw [List.length_map, List.length_take] at this
    omega
  have := hc (i * 16 + j) (by omega)
  rw [Nat.add_assoc, this, ← hv, List.getElem?_map, List.getElem?_take, if_pos hj, List.getElem?_drop, List.getD_eq_getElem?_getD, List.getElem?_eq_getElem (by omega)]
  rfl

theorem list16 {p : List Int} (h : p.length = 16) : ∃ x0 x1 x2 x3 x4 x5 x6 x7 x8 x9 x10 x11 x12 x13 x14 x15, p = [x0, x1, x2, x3, x4, x5, x6, x7, x8, x9, x10, x11, x12, x13, x14, x15] := by
  match p, h with
  | [x0, x1, x2, x3, x4, x5, x6, x7, x8, x9, x10, x11, x12, x13, x14, x15], _ => exact ⟨x0, x1, x2, x3, x4, x5, x6, x7, x8, x9, x10, x11, x12, x13, x14, x15, rfl⟩
theorem build43 {p : List Int} (h : p.length = 16) (w : World) : (Instr.buildSlice 28 1 #[(0, sumV p)]).run Try.prog w = .ok (.slice (some ⟨w.heap.size, 0, none⟩) 1 1) (w.alloc (.cells (bv p).toArray 27)) := by
  obtain ⟨x0, x1, x2, x3, x4, x5, x6, x7, x8, x9, x10, x11, x12, x13, x14, x15, rfl⟩ := list16 h
  kernel_rfl
theorem build55 {p : List Int} (h : p.length = 16) (w : World) : (Instr.buildSlice 71 1 #[(0, sumV p)]).run Try.prog w = .ok (.slice (some ⟨w.heap.size, 0, none⟩) 1 1) (w.alloc (.cells (bv p).toArray 70)) := by
  obtain ⟨x0, x1, x2, x3, x4, x5, x6, x7, x8, x9, x10, x11, x12, x13, x14, x15, rfl⟩ := list16 h
  kernel_rfl

theorem cellsL51 {l : List Int} (h : l.length = 16) : (Try.prog.info? 70).map (·.size) = some (bv l).length := by rw [List.length_map, h]; exact info51
theorem cellsL42 {l : List Int} (h : l.length = 16) : (Try.prog.info? 27).map (·.size) = some (bv l).length := by rw [List.length_map, h]; exact info42
theorem take16 (l : List Int) (i : Nat) : bv (l.take (i * 16)) ++ bv (sumAt l i) = bv (l.take ((i + 1) * 16)) := by
  unfold sumAt bv
  rw [← List.map_append, show (i + 1) * 16 = i * 16 + 16 by omega, List.take_add]
set_option maxHeartbeats 1600000 in
theorem sfrom_any (v : Value) (n : Nat) (l : List Int) (w : World) (h : HoldsS w v n l) (hn : n ≤ 1000000) :
    Calls Try.prog 62 #[v] w fun r w' => ∃ v', r = .returned v' ∧ w'.ownsRow w.heap.size 27 16 v' n (bv l) ∧ Below w.heap.size w w' := by
  have HS := Lib.hid h
  obtain ⟨a, cap, rfl, hl, -⟩ := h
  have HL := Lib.hid hl
  obtain ⟨i0, hi, hz0, hz1, hz2⟩ := info_parts info42'
  clear hl
  go_enter Try.func62, Try.ntmps62
  go_wp2_with fail
  go_loopw [3, 8] (fun v c wr => ∃ i : Nat, i ≤ n ∧ c = .int .i64 i ∧ wr.ownsRow w.heap.size 27 16 v i (bv (l.take (i * 16))) ∧ Below w.heap.size w wr) (fun _ c _ => n - (intOf c).toNat)
  case atStart => exact ⟨0, by omega, rfl, World.ownsRow_nil _ _ _ _, Below.refl _ _⟩
  case round =>
    obtain ⟨i, hi', rfl, hrow, hE⟩ := hrel
    by_cases hlt : i < n
    · obtain ⟨b, off, rfl, hbl, hrange⟩ := (HS.out.keep hE).range hlt
      have hlp := sumAt_len HL.out hlt
      have HX := Lib.hid (take16 l i)
      generalize sumAt l i = p at hrange hlp HX
      have HR := Lib.hid hrange
      have HE := Lib.hid hE
      have HROW : Hid (((wr.alloc z16o).setRow wr.heap.size (bv p).toArray).ownsRow w.heap.size 27 16 u3 i (bv (l.take (i * 16)))) := by
        unfold Hid
        rw [World.setRow_alloc_new]
        exact hrow.alloc _
      have HG : Hid (((wr.alloc z16o).setRow wr.heap.size (bv p).toArray).heap[wr.heap.size]? = some (.cells (bv p).toArray 70 (0, 0))) := (Blk.new wr z16o).setRow _
      have HE2 : Hid (Below w.heap.size w ((wr.alloc z16o).setRow wr.heap.size (bv p).toArray)) := by
        unfold Hid
        exact Below.row (hE.alloc hE.size z16o) hE.size _
      have hbs := build43 hlp
      have HC := Lib.hid (cells51 hlp)
      have HCL := Lib.hid (cellsL51 hlp)
      have HLP := Lib.hid hlp
      generalize bv (l.take (i * 16)) = xs at HROW HX hrow
      clear hrange hrow hE hlp
      go_wp2_with (first
        | (refine wpList_load_mid rfl 70 (.tmp 10) rfl b (off + i * 16) rfl (bv p) _ HR.out Try.underlying70 rfl HCL.out ?_)
        | (refine wpList_store_row rfl 70 (.tmp 5) (.tmp 11) rfl wr.heap.size (bv p).toArray rfl rfl 70 _ (Blk.new wr z16o) HC.out (size51 HLP.out) (bv_all p) ?_)
        | (refine wpList_load_row rfl 70 (.tmp 5) rfl wr.heap.size rfl 70 (bv p).toArray (0, 0) _ HG.out Try.underlying70 rfl HC.out ?_)
        | (refine wpList_buildSlice_one rfl 28 1 (.tmp 13) rfl (sumV p) rfl _ _ (hbs _) ?_)
        | (at_builtin; refine wpList_append_own _ rfl _ _ 28 rfl w.heap.size 27 i0 _ 16 16 Try.underlying28 hi hz0 hz1 hz2 rfl (by decide) _ _ _ rfl (HROW.out.alloc _) ⟨((wr.alloc z16o).setRow wr.heap.size (bv p).toArray).heap.size, 0, none⟩ 1 1 (bv p) rfl ?c0 (row_new _ _ _) ?c2 ?c3 ?c4 ?c5 ?_))
      case c0 => rw [bv_len, HLP.out]
      case c2 => exact bv_one _
      case c3 => unfold maxLen; omega
      case c4 => omega
      case c5 => have := HE2.out.size; simp at this ⊢; omega
      · intro v' w4 hown' hgrow _
        have HO4 := Lib.hid hown'
        have HB4 := Lib.hid (below_row_grown (HE2.out.alloc HE2.out.size _) (by have := HE2.out.size; simp at this ⊢; omega) (HROW.out.alloc _) hgrow)
        clear hown' hgrow hbs
        go_wp2_with fail
        exact ⟨⟨i + 1, by omega, by go_num, by have := HO4.out; rw [HX.out] at this; exact this, HB4.out⟩, by simp [intOf]; omega⟩
    · obtain rfl : i = n := by omega
      have HROW := Lib.hid hrow
      have HE := Lib.hid hE
      clear hrow hE
      go_wp2_with fail
      go_ret
      refine ⟨_, rfl, ?_, HE.out⟩
      have := HROW.out
      rw [List.take_of_length_le (by have := HL.out; omega)] at this
      exact this
set_option maxHeartbeats 1600000 in
theorem sto_any (v : Value) (n : Nat) (l : List Int) (w : World) (h : HoldsS w v n l) (hn : n ≤ 1000000) :
    Calls Try.prog 45 #[v] w fun r w' => ∃ v', r = .returned v' ∧ w'.ownsRow w.heap.size 70 16 v' n (bv l) ∧ Below w.heap.size w w' := by
  have HS := Lib.hid h
  obtain ⟨a, cap, rfl, hl, -⟩ := h
  have HL := Lib.hid hl
  obtain ⟨i0, hi, hz0, hz1, hz2⟩ := info_parts info51'
  clear hl
  go_enter Try.func45, Try.ntmps45
  go_wp2_with fail
  go_loopw [3, 8] (fun v c wr => ∃ i : Nat, i ≤ n ∧ c = .int .i64 i ∧ wr.ownsRow w.heap.size 70 16 v i (bv (l.take (i * 16))) ∧ Below w.heap.size w wr) (fun _ c _ => n - (intOf c).toNat)
  case atStart => exact ⟨0, by omega, rfl, World.ownsRow_nil _ _ _ _, Below.refl _ _⟩
  case round =>
    obtain ⟨i, hi', rfl, hrow, hE⟩ := hrel
    by_cases hlt : i < n
    · obtain ⟨b, off, rfl, hbl, hrange⟩ := (HS.out.keep hE).range hlt
      have hlp := sumAt_len HL.out hlt
      have HX := Lib.hid (take16 l i)
      generalize sumAt l i = p at hrange hlp HX
      have HR := Lib.hid hrange
      have HE := Lib.hid hE
      have HROW : Hid (((wr.alloc z16p).setRow wr.heap.size (bv p).toArray).ownsRow w.heap.size 70 16 u3 i (bv (l.take (i * 16)))) := by
        unfold Hid
        rw [World.setRow_alloc_new]
        exact hrow.alloc _
      have HG : Hid (((wr.alloc z16p).setRow wr.heap.size (bv p).toArray).heap[wr.heap.size]? = some (.cells (bv p).toArray 27 (0, 0))) := (Blk.new wr z16p).setRow _
      have HE2 : Hid (Below w.heap.size w ((wr.alloc z16p).setRow wr.heap.size (bv p).toArray)) := by
        unfold Hid
        exact Below.row (hE.alloc hE.size z16p) hE.size _
      have hbs := build55 hlp
      have HC := Lib.hid (cells42 hlp)
      have HCL := Lib.hid (cellsL42 hlp)
      have HLP := Lib.hid hlp
      generalize bv (l.take (i * 16)) = xs at HROW HX hrow
      clear hrange hrow hE hlp
      go_wp2_with (first
        | (refine wpList_load_mid rfl 27 (.tmp 10) rfl b (off + i * 16) rfl (bv p) _ HR.out Try.underlying27 rfl HCL.out ?_)
        | (refine wpList_store_row rfl 27 (.tmp 5) (.tmp 11) rfl wr.heap.size (bv p).toArray rfl rfl 27 _ (Blk.new wr z16p) HC.out (size51 HLP.out) (bv_all p) ?_)
        | (refine wpList_load_row rfl 27 (.tmp 5) rfl wr.heap.size rfl 27 (bv p).toArray (0, 0) _ HG.out Try.underlying27 rfl HC.out ?_)
        | (refine wpList_buildSlice_one rfl 71 1 (.tmp 13) rfl (sumV p) rfl _ _ (hbs _) ?_)
        | (at_builtin; refine wpList_append_own _ rfl _ _ 71 rfl w.heap.size 70 i0 _ 16 16 Try.underlying71 hi hz0 hz1 hz2 rfl (by decide) _ _ _ rfl (HROW.out.alloc _) ⟨((wr.alloc z16p).setRow wr.heap.size (bv p).toArray).heap.size, 0, none⟩ 1 1 (bv p) rfl ?c0 (row_new _ _ _) ?c2 ?c3 ?c4 ?c5 ?_))
      case c0 => rw [bv_len, HLP.out]
      case c2 => exact bv_one _
      case c3 => unfold maxLen; omega
      case c4 => omega
      case c5 => have := HE2.out.size; simp at this ⊢; omega
      · intro v' w4 hown' hgrow _
        have HO4 := Lib.hid hown'
        have HB4 := Lib.hid (below_row_grown (HE2.out.alloc HE2.out.size _) (by have := HE2.out.size; simp at this ⊢; omega) (HROW.out.alloc _) hgrow)
        clear hown' hgrow hbs
        go_wp2_with fail
        exact ⟨⟨i + 1, by omega, by go_num, by have := HO4.out; rw [HX.out] at this; exact this, HB4.out⟩, by simp [intOf]; omega⟩
    · obtain rfl : i = n := by omega
      have HROW := Lib.hid hrow
      have HE := Lib.hid hE
      clear hrow hE
      go_wp2_with fail
      go_ret
      refine ⟨_, rfl, ?_, HE.out⟩
      have := HROW.out
      rw [List.take_of_length_le (by have := HL.out; omega)] at this
      exact this
set_option maxHeartbeats 1600000 in
theorem sames_any (va vb : Value) (n : Nat) (l : List Int) (w : World) (ha : HoldsS w va n l) (hb : HoldsS w vb n l) (hn : n ≤ 1000000) :
    Calls Try.prog 63 #[va, vb] w fun r w' => r = .returned (.bool true) ∧ Below w.heap.size w w' := by
  have HA := Lib.hid ha
  have HB := Lib.hid hb
  obtain ⟨a, cap, rfl, hl, -, hby, -⟩ := ha
  obtain ⟨a2, cap2, rfl, -⟩ := hb
  have HL := Lib.hid hl
  have HBY := Lib.hid hby
  clear hl hby
  go_enter Try.func63, Try.ntmps63
  go_wp2_with fail
  go_loopw [5] (fun c wr => ∃ i : Nat, i ≤ n ∧ c = .int .i64 i ∧ Below w.heap.size w wr) (fun c _ => n - (intOf c).toNat)
  case atStart => exact ⟨0, by omega, rfl, Below.refl _ _⟩
  case round =>
    obtain ⟨i, hi', rfl, hE⟩ := hrel
    by_cases hlt : i < n
    · obtain ⟨b, off, rfl, hbl, hrange⟩ := (HA.out.keep hE).range hlt
      obtain ⟨b2, off2, rfl, hbl2, hrange2⟩ := (HB.out.keep hE).range hlt
      have hlp := sumAt_len HL.out hlt
      have heq := eqIn42 (sumAt_bytes HBY.out i) hlp
      generalize sumAt l i = p at hrange hrange2 hlp heq
      have HCL := Lib.hid (cellsL42 hlp)
      have HE := Lib.hid hE
      have HR := Lib.hid (And.intro hrange hrange2)
      have HBL := Lib.hid (And.intro hbl hbl2)
      clear hrange hrange2 hE hbl hbl2
      go_wp2_with fail
      refine wp_region_flow (fun w' => Below w.heap.size w w' ∧ wr.heap.size ≤ w'.heap.size ∧ w'.rangeAt b (off + i * 16) (bv p) ∧ w'.rangeAt b2 (off2 + i * 16) (bv p)) (by kernel_rfl) (by kernel_rfl) (by kernel_rfl)
        (fun w1 w2 h hb => ⟨h.1.trans (hb.mono h.1.size), Nat.le_trans h.2.1 hb.size, fun j v hv => (hb.cell (p := ⟨b, off + i * 16 + j, none⟩) (by have := HBL.out.1; have := h.2.1; show b < _; omega)).trans (h.2.2.1 j v hv), fun j v hv => (hb.cell (p := ⟨b2, off2 + i * 16 + j, none⟩) (by have := HBL.out.2; have := h.2.1; show b2 < _; omega)).trans (h.2.2.2 j v hv)⟩)
        ⟨HE.out.drew, Nat.le_refl _, HR.out.1, HR.out.2⟩ ?_
      repeat (first
        | (apply Flow.value
           · rfl
           · (intro wx hS; exact exec_load_mid rfl rfl hS.2.2.1 Try.underlying27 rfl HCL.out)
           try simp only [Act.put, List.setIfInBounds_toArray, List.set_cons_zero, List.set_cons_succ])
        | (apply Flow.value
           · rfl
           · (intro wx hS; exact exec_load_mid rfl rfl hS.2.2.2 Try.underlying27 rfl HCL.out)
           try simp only [Act.put, List.setIfInBounds_toArray, List.set_cons_zero, List.set_cons_succ])
        | (apply Flow.value
           · rfl
           · (intro wx hS; clear hS; go_simp; with_reducible rfl)
           try simp only [Act.put, List.setIfInBounds_toArray, List.set_cons_zero, List.set_cons_succ]))
      refine Flow.done ?_
      intro w4 hS
      have HE4 := Lib.hid hS.1
      clear hS heq
      go_wp2_with fail
      exact ⟨⟨i + 1, by omega, by go_num, HE4.out⟩, by simp [intOf]; omega⟩
    · obtain rfl : i = n := by omega
      have HE := Lib.hid hE
      clear hE
      go_wp2_with fail
      go_ret
      exact ⟨rfl, HE.out⟩
end Go.Proofs.Ytioeaknhcfkfcaa

namespace Go.Proofs.Ytioeaknhcfkfcaa
open Go.RowKit

theorem box51 {p : List Int} (h : p.length = 16) (w : World) : (Instr.box 70 (sumV p)).run Try.prog w = .ok (.pointer (some ⟨w.heap.size, 0, none⟩)) (w.alloc (.cells (bv p).toArray 70)) := by
  have h1 := cells51 h
  cases hq : Try.prog.info? 70 with
  | none => simp [hq] at h1
  | some i =>
    have hi : i.size = 16 := by simpa [hq, h] using h1
    have hs : (bv p).toArray.size = 16 := by simp [h]
    unfold sumV
    simp [Instr.box, newVar, sizeOf, typeInfo, hq, hi, Value.cells, hs, h, newRow]
set_option maxHeartbeats 1600000 in
theorem sumo_any (O : Nat) (v : Value) (l p : List Int) (f : Bool) (w : World) (h : OutIs w O v l f) (hp : Bytes p) (hl : p.length = 16) (hlen : l.length ≤ 1000000000000) :
    Calls Try.prog 54 #[.pointer (some ⟨O, 0, none⟩), sumV p] w (LayPost O v (putL l p f) f w) := by
  have H := Lib.hid h
  have HP := Lib.hid hp
  have HB := Lib.hid (HoldsB.box w p hp (by unfold maxLen; omega) 70)
  rw [hl] at HB
  have HBX := Lib.hid (box51 hl w)
  have HL := Lib.hid hl
  clear h hp hl
  go_enter Try.func54, Try.ntmps54
  go_wp2_with (refine wpList_box_eq rfl 70 (.tmp 1) rfl (sumV p) rfl _ _ HBX.out ?_)
  refine (put_any O (w.heap.size + 1) v _ l p f _ (H.out.keep (more (Below.refl _ _) _)) HB.out (by have := HL.out; omega)).mono ?_
  rintro r w2 ⟨rfl, v2, h2⟩
  have H2 := Lib.hid (OutStep.ahead H.out (more (Below.refl _ _) _) h2)
  clear h2
  go_wp2_with fail
  go_end0
  exact ⟨rfl, v2, H2.out⟩
theorem putL_take {L S : List Int} {f : Bool} (i : Nat) : putL (putL L (S.take (i * 16)) f) (sumAt S i) f = putL L (S.take ((i + 1) * 16)) f := by
  unfold putL sumAt
  cases f
  · simp only [Bool.false_eq_true, if_false]
    rw [List.append_assoc, show (i + 1) * 16 = i * 16 + 16 by omega, List.take_add]
  · rfl
set_option maxHeartbeats 3200000 in
theorem sumso_any (O : Nat) (v s : Value) (l S : List Int) (n : Nat) (f : Bool) (w : World) (h : OutIs w O v l f) (hs : HoldsS w s n S) (hn : n ≤ 1000000) (hd : ∀ b, s.ownBlock = some b → b ≠ O ∧ v.ownBlock ≠ some b) (hlen : l.length ≤ 1000000000) :
    Calls Try.prog 55 #[.pointer (some ⟨O, 0, none⟩), s] w (LayPost O v (sumsL' l S n f) (sumsF' n f) w) := by
  have H := Lib.hid h
  have HS := Lib.hid hs
  have HD := Lib.hid hd
  obtain ⟨a, cap, rfl, hl, -, hb, -⟩ := hs
  have HL := Lib.hid hl
  have HBY := Lib.hid hb
  have hl1 : Hid (n ≤ 1000000 ∧ (numL l f n 1).length ≤ 1000000001) := ⟨hn, by have := numL_len l f n 1; omega⟩
  have hE : Hid (sumsL' l S n f = putL (numL l f n 1) S (numF f n 1) ∧ sumsF' n f = numF f n 1) := ⟨rfl, rfl⟩
  clear h hl hb hd
  generalize sumsL' l S n f = LL at hE ⊢
  generalize sumsF' n f = FF at hE ⊢
  go_enter Try.func55, Try.ntmps55
  go_wp2_with fail
  refine (u8o_any O v l f n _ H.out (by omega) (by omega) (by omega)).mono ?_
  rintro r w1 ⟨rfl, v1, h1⟩
  have H1 := Lib.hid h1
  clear h1
  generalize numL l f n 1 = L at H1 hE hl1
  generalize numF f n 1 = F at H1 hE
  go_wp2_with fail
  go_loopw [13] (fun c wr => ∃ (i : Nat) (vr : Value), i ≤ n ∧ c = .int .i64 i ∧ OutStep O v vr (putL L (S.take (i * 16)) F) F w wr) (fun c _ => n - (intOf c).toNat)
  case atStart => exact ⟨0, v1, by omega, rfl, by rw [Nat.zero_mul, List.take_zero, putL_nil]; exact H1.out⟩
  case round =>
    obtain ⟨i, vr, hi', rfl, hst⟩ := hrel
    have HST := Lib.hid hst
    clear hst
    by_cases hlt : i < n
    · obtain ⟨b, off, rfl, hbl, hrange⟩ := HS.out.range hlt
      have hdd := HD.out b rfl
      have HR : Hid (wr.rangeAt b (off + i * 16) (bv (sumAt S i))) := fun j u hu => (World.cell?_of_block (w := w) (a := ⟨b, off + i * 16 + j, none⟩) (HST.out.other b hbl hdd.1 hdd.2)).trans (hrange j u hu)
      have hlp := sumAt_len HL.out hlt
      have HPB := Lib.hid (sumAt_bytes HBY.out i)
      have HX := Lib.hid (putL_take (L := L) (S := S) (f := F) i)
      have HTL : Hid ((putL L (S.take (i * 16)) F).length ≤ 1000000000000) := by
        have h1 := putL_len L (S.take (i * 16)) F
        have h2 := hl1.out
        have h3 := HL.out
        rw [List.length_take] at h1
        show _ ≤ _
        omega
      generalize sumAt S i = p at HR hlp HX HPB
      have HG : Hid (((wr.alloc z16o).setRow wr.heap.size (bv p).toArray).heap[wr.heap.size]? = some (.cells (bv p).toArray 70 (0, 0))) := (Blk.new wr z16o).setRow _
      have HB2 : Hid (Below wr.heap.size wr ((wr.alloc z16o).setRow wr.heap.size (bv p).toArray)) := Below.row (more (Below.refl _ wr) z16o) (Nat.le_refl _) _
      have HC := Lib.hid (cells51 hlp)
      have HCL := Lib.hid (cellsL51 hlp)
      have HLP := Lib.hid hlp
      clear hrange hlp hbl hdd
      go_wp2_with (first
        | (refine wpList_load_mid rfl 70 (.tmp 15) rfl b (off + i * 16) rfl (bv p) _ HR.out Try.underlying70 rfl HCL.out ?_)
        | (refine wpList_store_row rfl 70 (.tmp 5) (.tmp 16) rfl wr.heap.size (bv p).toArray rfl rfl 70 _ (Blk.new wr z16o) HC.out (size51 HLP.out) (bv_all p) ?_)
        | (refine wpList_load_row rfl 70 (.tmp 5) rfl wr.heap.size rfl 70 (bv p).toArray (0, 0) _ HG.out Try.underlying70 rfl HC.out ?_))
      refine (sumo_any O vr _ p F _ (HST.out.is.keep HB2.out) HPB.out HLP.out HTL.out).mono ?_
      rintro r w4 ⟨rfl, v4, h4⟩
      have H4 := Lib.hid (HST.out.trans (OutStep.ahead HST.out.is HB2.out h4))
      clear h4
      go_wp2_with fail
      exact ⟨⟨i + 1, v4, by omega, by go_num, by have := H4.out; rw [HX.out] at this; exact this⟩, by simp [intOf]; omega⟩
    · obtain rfl : i = n := by omega
      go_wp2_with fail
      go_end0
      have h5 := HST.out
      rw [List.take_of_length_le (by have := HL.out; omega)] at h5
      exact ⟨rfl, vr, by rw [hE.out.1, hE.out.2]; exact h5⟩
end Go.Proofs.Ytioeaknhcfkfcaa

namespace Go.Proofs.Ytioeaknhcfkfcaa
open Go.RowKit

/-- The row of n short sums behind i rounds. -/
def sumsRow (p : List Int) (n i : Nat) : List Int := p.take (i * 16) ++ List.replicate ((n - i) * 16) 0
theorem sumsRow_len {p : List Int} {n i : Nat} (h : p.length = n * 16) (hi : i ≤ n) : (sumsRow p n i).length = n * 16 := by
  unfold sumsRow
  rw [List.length_append, List.length_take, List.length_replicate, Nat.min_eq_left (by omega), Nat.sub_mul]
  omega
theorem splice_mid {α : Type} (A Z X : List α) (k : Nat) (hk : A.length = k) : splice (A ++ Z) k X = A ++ (X ++ Z.drop X.length) := by
  subst hk
  unfold splice
  rw [List.take_left, List.drop_append, List.drop_eq_nil_of_le (by omega), List.nil_append, show A.length + X.length - A.length = X.length by omega]
theorem sumsRow_step {p : List Int} {n i : Nat} (h : p.length = n * 16) (hi : i < n) : splice (bv (sumsRow p n i)) (i * 16) (bv ((p.drop (i * 16)).take 16)) = bv (sumsRow p n (i + 1)) := by
  have h1 : ((p.drop (i * 16)).take 16).length = 16 := by rw [List.length_take, List.length_drop]; omega
  unfold sumsRow bv
  rw [List.map_append, splice_mid _ _ _ (i * 16) (by rw [List.length_map, List.length_take]; omega), List.length_map, h1, ← List.map_drop, List.drop_replicate, ← List.map_append, ← List.map_append, ← List.append_assoc,
    show (n - i) * 16 - 16 = (n - (i + 1)) * 16 by rw [Nat.sub_mul, Nat.sub_mul]; omega, show (i + 1) * 16 = i * 16 + 16 by omega, List.take_add]
theorem sumsRow_all {p : List Int} {n : Nat} (h : p.length = n * 16) : sumsRow p n n = p := by
  unfold sumsRow
  rw [Nat.sub_self, Nat.zero_mul, List.replicate_zero, List.append_nil, List.take_of_length_le (by omega)]
theorem sumsRow_none {p : List Int} {n : Nat} : sumsRow p n 0 = List.replicate (n * 16) 0 := by
  simp [sumsRow]
theorem made16 (n : Nat) : madeCells #[.int .u8 0, .int .u8 0, .int .u8 0, .int .u8 0, .int .u8 0, .int .u8 0, .int .u8 0, .int .u8 0, .int .u8 0, .int .u8 0, .int .u8 0, .int .u8 0, .int .u8 0, .int .u8 0, .int .u8 0, .int .u8 0] n = (bv (List.replicate n 0)).toArray := by
  apply Array.ext_getElem?
  intro j
  by_cases hj : j < n
  · have h16 : j % 16 < 16 := Nat.mod_lt _ (by decide)
    have : ∀ k, k < 16 → (#[Value.int .u8 0, .int .u8 0, .int .u8 0, .int .u8 0, .int .u8 0, .int .u8 0, .int .u8 0, .int .u8 0, .int .u8 0, .int .u8 0, .int .u8 0, .int .u8 0, .int .u8 0, .int .u8 0, .int .u8 0, .int .u8 0] : Array Value)[k]! = .int .u8 0 := by
      intro k hk
      have hk' : k = 0 ∨ k = 1 ∨ k = 2 ∨ k = 3 ∨ k = 4 ∨ k = 5 ∨ k = 6 ∨ k = 7 ∨ k = 8 ∨ k = 9 ∨ k = 10 ∨ k = 11 ∨ k = 12 ∨ k = 13 ∨ k = 14 ∨ k = 15 := by omega
      rcases hk' with rfl | rfl | rfl | rfl | rfl | rfl | rfl | rfl | rfl | rfl | rfl | rfl | rfl | rfl | rfl | rfl <;> rfl
    have hh := this (j % 16) h16
    simp [madeCells, hj]
    simpa using hh
  · simp [madeCells, hj]
theorem make51 (n : Nat) (hn : n ≤ 65535) (w : World) : (Instr.makeSlice 71 (.int .i64 n) (.int .i64 n)).run Try.prog w = .ok (.slice (some ⟨w.heap.size, 0, none⟩) n n) (w.alloc (.cells (bv (List.replicate (n * 16) 0)).toArray 70)) := by
  obtain ⟨i0, hi, hz0, hz1, hz2⟩ := info_parts info51'
  have h := run_make (P := Try.prog) w 71 70 i0 _ Try.underlying71 hi hz0 .i64 .i64 n n (by omega) (Int.le_refl _) (by rw [hz2]; omega) (by omega)
  rw [h, ← made16, hz1]
  simp [Value.cells, Int.toNat_natCast]
theorem posRow {w : World} {M A off k : Nat} {a : Option Addr} {n cap : Nat} {l : List Int} (h : HoldsB w M (.slice a n cap) l) (h0 : 0 < (bv (l.take k)).length) :
    (some (⟨A, off, none⟩ : Addr)) = some ⟨A, off, none⟩ ∧ ∃ ad, a = some ad ∧ ∀ j u, (bv (l.take k))[j]? = some u → w.cell? (ad.add j) = some u := by
  refine ⟨rfl, ?_⟩
  obtain ⟨ad, ha, hc⟩ := h.source (by rw [List.length_map, List.length_take] at h0; rw [List.length_map]; omega)
  refine ⟨ad, ha, fun j u hu => hc j u ?_⟩
  unfold bv at hu
  rw [List.map_take, List.getElem?_take] at hu
  split at hu
  · exact hu
  · cases hu
/-- The slice v holds n short sums, whose bytes are l, in a row of its own from base on. -/
def sumsN (l : List Int) (e : Int) (most : Int) : Nat := (manyR l e 1 most).toNat * 16
def sumsP (l : List Int) (e : Int) (most : Int) : List Int := nextP (manyL l e 1 most) (manyE l e 1 most) (sumsN l e most)
def sumsL (l : List Int) (e : Int) (most : Int) : List Int := nextL (manyL l e 1 most) (manyE l e 1 most) (sumsN l e most)
def sumsE (l : List Int) (e : Int) (most : Int) : Int := nextE (manyL l e 1 most) (manyE l e 1 most) (sumsN l e most)
theorem nextP_16 (l : List Int) (e : Int) (k : Nat) : ∃ n, n ≤ k ∧ (nextP l e (k * 16)).length = n * 16 := by
  unfold nextP
  split
  · exact ⟨k, Nat.le_refl _, by rw [List.length_take]; omega⟩
  · exact ⟨0, Nat.zero_le _, by simp⟩
set_option maxHeartbeats 1600000 in
theorem sums_any (M I : Nat) (l : List Int) (e : Int) (most : Int) (w : World) (h : InIs w M I l e) (hm0 : -9223372036854775808 ≤ most) (hm1 : most ≤ 9223372036854775807) :
    Calls Try.prog 59 #[.pointer (some ⟨I, 0, none⟩), .int .i64 most] w fun r w' => ∃ v n, r = .returned v ∧ (sumsP l e most).length = n * 16 ∧ n ≤ 65535 ∧ w'.ownsRow w.heap.size 70 16 v n (bv (sumsP l e most)) ∧ InStep M I (sumsL l e most) (sumsE l e most) w w' := by
  have HH := Lib.hid h
  have HR := Lib.hid (manyR_range (e := e) (k := 1) (most := most) h.bytes (by omega))
  clear h
  have HB : Hid (sumsP l e most = nextP (manyL l e 1 most) (manyE l e 1 most) ((manyR l e 1 most).toNat * 16) ∧ sumsL l e most = nextL (manyL l e 1 most) (manyE l e 1 most) ((manyR l e 1 most).toNat * 16) ∧
      sumsE l e most = nextE (manyL l e 1 most) (manyE l e 1 most) ((manyR l e 1 most).toNat * 16)) := ⟨rfl, rfl, rfl⟩
  have HC : Hid (Calls Try.prog 71 #[.pointer (some ⟨I, 0, none⟩), .int .i64 1, .int .i64 most] w fun r w' => r = .returned (.int .i64 (manyR l e 1 most)) ∧ InStep M I (manyL l e 1 most) (manyE l e 1 most) w w') :=
    many_any M I l e 1 most _ HH.out (by omega) hm0 hm1
  generalize sumsP l e most = sp at HB ⊢
  generalize sumsL l e most = sl at HB ⊢
  generalize sumsE l e most = se at HB ⊢
  generalize manyL l e 1 most = lm at HB HC
  generalize manyE l e 1 most = em at HB HC
  generalize manyR l e 1 most = rm at HB HC HR
  obtain ⟨k, rfl⟩ : ∃ k : Nat, rm = k := ⟨rm.toNat, by have := HR.out; omega⟩
  have hk : k ≤ 65535 := by have := HR.out; omega
  go_enter Try.func59, Try.ntmps59
  go_wp2_with fail
  refine HC.out.mono ?_
  rintro r w1 ⟨rfl, h1⟩
  have H1 := Lib.hid h1
  clear h1
  go_wp2_with fail
  have hc := next_any M I lm em (k * 16) _ H1.out.is (by omega)
  have e16 : (((k * 16 : Nat)) : Int) = 16 * (k : Int) := by omega
  rw [e16] at hc
  refine hc.mono ?_
  clear hc
  rintro r w2 ⟨v, rfl, hv, h2⟩
  obtain ⟨n, hnk, hn⟩ := nextP_16 lm em k
  have hB := HB.out
  rw [Int.toNat_natCast] at hB
  obtain ⟨hb1, hb2, hb3⟩ := hB
  rw [← hb1] at hv hn
  rw [← hb2, ← hb3] at h2
  have H2 := Lib.hid (H1.out.trans h2)
  obtain ⟨a, L, cap, rfl, hL⟩ := hv.slice
  have HV := Lib.hid hv
  have hLn : L = n * 16 := by omega
  have hq : (L : Int) / 16 = (n : Int) := by omega
  have hn6 : n ≤ 65535 := by omega
  have HLN := Lib.hid hLn
  have HN := Lib.hid hn
  have hmk := make51 n hn6
  have hL1 : L ≤ 1048560 := by omega
  clear hv h2 hL hb1 hb2 hb3 HB HC HR e16 hLn hn
  go_wp2_with fail
  have hstart : Blk (w2.alloc (.cells (Array.replicate (n * 16) (.int .u8 0)) 70)) w2.heap.size (.cells (bv (sumsRow sp n 0)).toArray 70) := by
    rw [sumsRow_none]
    have e : (bv (List.replicate (n * 16) 0)).toArray = Array.replicate (n * 16) (.int .u8 0) := by simp [bv]
    rw [e]
    exact Blk.new _ _
  have HST := Lib.hid (And.intro hstart (And.intro (more (Below.refl _ w2) (.cells (Array.replicate (n * 16) (.int .u8 0)) 70)) (show w2.heap.size + 1 ≤ (w2.alloc (.cells (Array.replicate (n * 16) (.int .u8 0)) 70)).heap.size by simp)))
  clear hstart
  revert HST
  generalize w2.alloc (.cells (Array.replicate (n * 16) (.int .u8 0)) 70) = W3
  intro HST
  have HS2 := Lib.hid H2.out.size
  go_loopw [20] (fun c wr => ∃ i : Nat, i ≤ n ∧ c = .int .i64 i ∧ Blk wr w2.heap.size (.cells (bv (sumsRow sp n i)).toArray 70) ∧ Below w2.heap.size w2 wr ∧ w2.heap.size + 1 ≤ wr.heap.size) (fun c _ => n - (intOf c).toNat)
  case atStart => exact ⟨0, by omega, rfl, HST.out⟩
  case round =>
    obtain ⟨i, hi, rfl, hb, hE, hS⟩ := hrel
    have HBL := Lib.hid hb
    have HE := Lib.hid hE
    clear hb hE
    by_cases hlt : i < n
    · obtain ⟨v', hv', hp'⟩ := (HV.out.keep HE.out).back (k := i * 16) (by have := HN.out; omega)
      obtain ⟨a', n', cap', rfl, hn'⟩ := hp'.slice
      have e16 : (((i * 16 : Nat)) : Int) = 16 * (i : Int) := by omega
      rw [e16] at hv'
      have hn16 : 16 ≤ n' := by
        rw [List.length_drop, HN.out] at hn'
        omega
      have HP' := Lib.hid hp'
      have hw16 : IntKind.i64.wrap (16 * (i : Int)) = 16 * (i : Int) := IntWalk.i64_in _ (by omega)
      have HCN : Hid ((bv ((sp.drop (i * 16)).take 16)).length = Nat.min n' 16) := by
        unfold Hid
        rw [List.length_map, List.length_take, ← hn', Nat.min_comm]
      have HFIT : Hid (i * 16 + (bv ((sp.drop (i * 16)).take 16)).length ≤ (bv (sumsRow sp n i)).length) := by
        unfold Hid
        rw [List.length_map, List.length_map, sumsRow_len HN.out hi, List.length_take, ← hn', Nat.min_eq_left hn16]
        omega
      have HSTEP := Lib.hid (sumsRow_step HN.out hlt)
      clear hp' e16 hn'
      go_wp2_with fail
      go_region_law (refine step_copy_splice rfl (.tmp 26) (.tmp 30) 39 39 rfl 5 Try.underlying39 (by kernel_rfl) (some ⟨w2.heap.size, i * 16, none⟩) a' 16 16 n' cap' (by simp [Act.eval, Act.put]) (by simp [Act.eval, Act.put]) w2.heap.size (i * 16) (bv (sumsRow sp n i)) 70 HBL.out (bv ((sp.drop (i * 16)).take 16)) HCN.out (posRow HP'.out) HFIT.out (bv_one _) w2.heap.size w2 HE.out.drew (Nat.le_refl _) ?_; intro w4 hg4 hb4)
      all_goals
        have HG4 := hg4
        have HB4 := Lib.hid hb4
        clear hg4 hb4
        go_wp2_with fail
        exact ⟨⟨i + 1, by omega, by go_num, by have := HG4.out; rw [HSTEP.out] at this; exact this, HB4.out, Blk.lt (o := .cells (splice (bv (sumsRow sp n i)) (i * 16) (bv ((sp.drop (i * 16)).take 16))).toArray 70) HG4.out⟩, by simp [intOf]; omega⟩
    · obtain rfl : i = n := by omega
      have HALL := Lib.hid (sumsRow_all HN.out)
      go_wp2_with fail
      go_ret
      have hb := HBL.out
      rw [HALL.out] at hb
      have hn := HN.out
      refine ⟨_, i, rfl, hn, hn6, ⟨by rw [List.length_map, hn], .inr ⟨w2.heap.size, i, (bv sp).toArray, rfl, HS2.out, hb, Nat.le_refl _, by unfold maxLen; omega, by simp [hn], ?_⟩⟩, H2.out.more HE.out⟩
      rw [List.take_of_length_le (by simp [hn])]
end Go.Proofs.Ytioeaknhcfkfcaa

namespace Go.Proofs.Ytioeaknhcfkfcaa
open Go.RowKit

def RSumsPostU (M R : Nat) (B : List Int) (at' : Nat) (e most : Int) (w : World) (r : Ending) (w' : World) : Prop :=
  ∃ v n, r = .returned v ∧ (rsumsP B at' e most).length = n * 16 ∧ n ≤ 255 ∧ w'.ownsRow w.heap.size 27 16 v n (bv (rsumsP B at' e most)) ∧ RefStep M R B (rsumsA B at' e most) (rsumsE B at' e most) w w'
theorem RSumsPostU.no {M R : Nat} {B : List Int} {at' : Nat} {e most : Int} {w w' : World} {a : Nat} {e' : Int} (h1 : rsumsA B at' e most = a) (h2 : rsumsE B at' e most = e') (h3 : e' ≠ 0) (h : RefStep M R B a e' w w') :
    RSumsPostU M R B at' e most w (.returned (.slice none 0 0)) w' := by
  refine ⟨_, 0, rfl, ?_, by omega, ?_, by rw [h1, h2]; exact h⟩
  · unfold rsumsP; rw [h2, if_neg h3]; rfl
  · unfold rsumsP; rw [h2, if_neg h3]; exact World.ownsRow_nil _ _ _ _
end Go.Proofs.Ytioeaknhcfkfcaa
