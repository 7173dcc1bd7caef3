/-
  The contracts of In's short sums.
-/
import Derived.Test.YtgpjffchpppceaaInC
namespace Go.Proofs.Ytgpjffchpppceaa
open Go.RowKit

abbrev z16 : List Int := [0, 0, 0, 0, 0, 0, 0, 0, 0, 0, 0, 0, 0, 0, 0, 0]
abbrev z16o : Obj := .cells #[.int .u8 0, .int .u8 0, .int .u8 0, .int .u8 0, .int .u8 0, .int .u8 0, .int .u8 0, .int .u8 0, .int .u8 0, .int .u8 0, .int .u8 0, .int .u8 0, .int .u8 0, .int .u8 0, .int .u8 0, .int .u8 0] 51
/-- A short sum, as a value. -/
def sumV (l : List Int) : Value := .agg (bv l).toArray
/-- What Sum answers. -/
def sumP (l : List Int) (e : Int) : List Int := if e = 0 ∧ 16 ≤ l.length then l.take 16 else z16
theorem sumP_is (l : List Int) (e : Int) : splice (bv z16) 0 (bv (nextP l e 16)) = bv (sumP l e) := by
  unfold sumP nextP
  split
  · rename_i h
    have h2 : (l.take 16).length = 16 := by rw [List.length_take]; omega
    unfold splice
    rw [List.length_map, h2]
    simp
  · rfl
theorem sumP_len (l : List Int) (e : Int) : (sumP l e).length = 16 := by
  unfold sumP
  split
  · rw [List.length_take]; omega
  · rfl
theorem bv_all (l : List Int) : (bv l).toArray.all (·.oneCell') = true := Array.all_eq_true_iff_forall_mem.2 fun v hv => bv_one l v (by simpa using hv)

theorem info51 : (Try.prog.info? 51).map (·.size) = some 16 := by kernel_rfl
theorem cells51 {l : List Int} (h : l.length = 16) : (Try.prog.info? 51).map (·.size) = some (bv l).toArray.size := by
  have e : (bv l).toArray.size = 16 := by simp [h]
  rw [e]
  exact info51
theorem size51 {l : List Int} (h : l.length = 16) : (#[Value.int .u8 0, .int .u8 0, .int .u8 0, .int .u8 0, .int .u8 0, .int .u8 0, .int .u8 0, .int .u8 0, .int .u8 0, .int .u8 0, .int .u8 0, .int .u8 0, .int .u8 0, .int .u8 0, .int .u8 0, .int .u8 0] : Array Value).size = (bv l).toArray.size := by
  simp [h]
theorem min16 {l : List Int} {e : Int} {n : Nat} (h : n = (nextP l e 16).length) : (bv (nextP l e 16)).length = Nat.min n 16 := by
  have := nextP_len l e 16
  rw [List.length_map, h]
  exact (Nat.min_eq_left this).symm
theorem pos16 {w : World} {M A : Nat} {a : Option Addr} {n cap : Nat} {l : List Int} (h : HoldsB w M (.slice a n cap) l) (h0 : 0 < (bv l).length) :
    (some (⟨A, 0, none⟩ : Addr)) = some ⟨A, 0, none⟩ ∧ ∃ ad, a = some ad ∧ ∀ j u, (bv l)[j]? = some u → w.cell? (ad.add j) = some u := ⟨rfl, h.source h0⟩
theorem fit16 (l : List Int) (e : Int) : 0 + (bv (nextP l e 16)).length ≤ (bv z16).length := by
  have := nextP_len l e 16
  simp
  omega

set_option maxHeartbeats 1600000 in
theorem sum_any (M I : Nat) (l : List Int) (e : Int) (w : World) (h : InIs w M I l e) :
    Calls Try.prog 21 #[.pointer (some ⟨I, 0, none⟩)] w fun r w' => r = .returned (sumV (sumP l e)) ∧ InStep M I (nextL l e 16) (nextE l e 16) w w' := by
  have hI := h.lt
  go_enter Try.func21, Try.ntmps21
  go_wp2_with fail
  have HI := Lib.hid ((h.keep (more (Below.refl _ _) z16o)).keep (more (Below.refl _ _) z16o))
  have hbA := (Blk.new w z16o).old z16o
  have hbB : Blk ((w.alloc z16o).alloc z16o) (w.heap.size + 1) z16o := Blk.newAt _ (by simp)
  have hE : Below w.heap.size w ((w.alloc z16o).alloc z16o) := more (more (Below.refl _ _) _) _
  have hS : w.heap.size + 2 ≤ ((w.alloc z16o).alloc z16o).heap.size := by simp
  have HBA := Lib.hid hbA
  have HBB := Lib.hid hbB
  have HE := Lib.hid hE
  clear hbA hbB hE h
  revert HI HBA HBB HE hS
  generalize (w.alloc z16o).alloc z16o = W0
  intro HI hS HBA HBB HE
  generalize hA : w.heap.size = A at *
  have HA := Lib.hid hA
  clear hA
  have hIA : A + 1 ≠ I := by omega
  go_region_law (first
    | (refine step_copy_splice rfl (.tmp 4) (.tmp 6) 26 26 rfl 5 Try.underlying26 (by kernel_rfl) _ _ _ _ _ _ (by simp [Act.eval, Act.put]; rfl) (by simp [Act.eval, Act.put]; rfl) (A + 1) 0 (bv z16) 51 HG.out (bv (nextP l e 16)) HCN.out HPOS.out HFIT.out (bv_one _) (A + 1) w2 (Below.refl _ _) (Nat.le_refl _) ?_; intro w4 hg4 hb4)
    | (go_simp; go_at_call 49; refine (next_any M I l e 16 _ HI.out.drew (by omega)).mono ?_; rintro r w2 ⟨v, rfl, hv, h2⟩; obtain ⟨a, n, cap, rfl, hn⟩ := hv.slice; have H2 := Lib.hid h2.undrew; have HG := Lib.hid (H2.out.keep HBB.out hIA); have HCN := Lib.hid (min16 hn); have HPOS := Lib.hid (pos16 (A := A + 1) hv); have HFIT := Lib.hid (fit16 l e); clear hv h2 hn))
  all_goals
    have H4 : Hid (InStep M I (nextL l e 16) (nextE l e 16) w w4) := (InStep.ahead (by rw [HA.out]; exact HE.out) H2.out).upto hb4 (by rw [HA.out]; omega) (by rw [HA.out]; omega)
    have HA4 := Lib.hid ((H2.out.keep HBA.out (show A ≠ I by omega)).upto hb4 (Nat.lt_succ_self A))
    have HG4 : Hid (w4.heap[A + 1]? = some (.cells (bv (sumP l e)).toArray 51 (0, 0))) := by
      have := hg4.out
      rw [sumP_is] at this
      exact this
    clear hg4 hb4
    have hc16 := Lib.hid (cells51 (sumP_len l e))
    have H5 := Lib.hid (H4.out.upto (Below.row (Below.refl A w4) (Nat.le_refl A) (bv (sumP l e)).toArray) (by rw [HA.out]; exact Nat.le_refl _) (by rw [HA.out]; omega))
    have HA5 := Lib.hid (HA4.out.setRow (bv (sumP l e)).toArray)
    go_wp2_with (first
      | (refine wpList_load_row rfl 51 (.tmp 3) rfl (A + 1) rfl 51 (bv (sumP l e)).toArray (0, 0) _ HG4.out Try.underlying51 rfl hc16.out ?_)
      | (refine wpList_store_row rfl 51 (.tmp 2) (.tmp 8) rfl A (bv (sumP l e)).toArray rfl rfl 51 _ HA4.out hc16.out (size51 (sumP_len l e)) (bv_all _) ?_))
    refine bodyPost_ret (v := sumV (sumP l e)) (results_cell_row Try.results21 _ _ A 51 _ (0, 0) _ rfl HA5.out Try.underlying51 rfl hc16.out) rfl ⟨rfl, H5.out⟩
end Go.Proofs.Ytgpjffchpppceaa
