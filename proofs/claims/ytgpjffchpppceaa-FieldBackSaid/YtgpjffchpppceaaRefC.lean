/-
  The contract of the document's In's Sum.
-/
import Derived.Test.YtgpjffchpppceaaRefB
namespace Go.Proofs.Ytgpjffchpppceaa
open Go.RowKit

abbrev z16p : Obj := .cells #[.int .u8 0, .int .u8 0, .int .u8 0, .int .u8 0, .int .u8 0, .int .u8 0, .int .u8 0, .int .u8 0, .int .u8 0, .int .u8 0, .int .u8 0, .int .u8 0, .int .u8 0, .int .u8 0, .int .u8 0, .int .u8 0] 42
def rsumP (B : List Int) (at' : Nat) (e : Int) : List Int := if e = 0 ∧ 16 ≤ B.length - at' then (B.drop at').take 16 else z16
theorem rsumP_len (B : List Int) (at' : Nat) (e : Int) : (rsumP B at' e).length = 16 := by
  unfold rsumP
  split
  · rw [List.length_take, List.length_drop]; omega
  · rfl
theorem info42 : (Try.prog.info? 42).map (·.size) = some 16 := by kernel_rfl
theorem cells42 {l : List Int} (h : l.length = 16) : (Try.prog.info? 42).map (·.size) = some (bv l).toArray.size := by
  have e : (bv l).toArray.size = 16 := by simp [h]
  rw [e]
  exact info42
/-- The array behind i rounds. -/
def fill16 (p : List Int) (i : Nat) : List Int := p.take i ++ List.replicate (16 - i) 0
theorem fill16_len {p : List Int} {i : Nat} (h : i ≤ p.length) (h2 : i ≤ 16) : (fill16 p i).length = 16 := by
  unfold fill16
  rw [List.length_append, List.length_take, List.length_replicate]
  omega
theorem fill16_step {p : List Int} {i : Nat} (h : i < p.length) (h2 : i < 16) : (bv (fill16 p i)).toArray.setIfInBounds i (.int .u8 (p.getD i 0)) = (bv (fill16 p (i + 1))).toArray := by
  rw [List.setIfInBounds_toArray]
  congr 1
  unfold fill16 bv
  rw [List.map_append, List.map_append, List.set_append_right _ _ (by rw [List.length_map, List.length_take]; omega), List.length_map, List.length_take, Nat.min_eq_left (by omega), Nat.sub_self,
    show 16 - i = (16 - (i + 1)) + 1 by omega, List.replicate_succ, List.map_cons, List.set_cons_zero, List.take_succ_eq_append_getElem h, List.map_append, List.append_assoc, List.getD_eq_getElem?_getD, List.getElem?_eq_getElem h]
  rfl
theorem fill16_all {p : List Int} (h : p.length = 16) : fill16 p 16 = p := by
  unfold fill16
  rw [List.take_of_length_le (by omega)]
  simp

set_option maxHeartbeats 1600000 in
theorem rsum_any (M R : Nat) (B : List Int) (at' : Nat) (e : Int) (w : World) (h : RefIs w M R B at' e) :
    Calls Try.prog 44 #[.pointer (some ⟨R, 0, none⟩)] w fun r w' => r = .returned (sumV (rsumP B at' e)) ∧ RefStep M R B (rawA B at' e 16) (rawE B at' e 16) w w' := by
  have hR := h.lt
  have hbytes := rawP_bytes h.bytes at' e 16
  go_enter Try.func44, Try.ntmps44
  go_wp2_with fail
  have HI := Lib.hid ((h.keep (more (Below.refl _ _) z16p)).keep (more (Below.refl _ _) z16p))
  have hbA := (Blk.new w z16p).old z16p
  have hbB : Blk ((w.alloc z16p).alloc z16p) (w.heap.size + 1) z16p := Blk.newAt _ (by simp)
  have hE : Below w.heap.size w ((w.alloc z16p).alloc z16p) := more (more (Below.refl _ _) _) _
  have HBA := Lib.hid hbA
  have HBB := Lib.hid hbB
  have HE := Lib.hid hE
  have HS := Lib.hid (show w.heap.size + 2 ≤ ((w.alloc z16p).alloc z16p).heap.size by simp)
  clear hbA hbB hE h
  generalize (w.alloc z16p).alloc z16p = W0 at HI HBA HBB HE HS ⊢
  generalize hA : w.heap.size = A at HBA HBB HE HS hR ⊢
  have HA := Lib.hid hA
  clear hA
  refine (raw_any M R B at' e 16 _ HI.out (by omega)).mono ?_
  rintro r w1 ⟨v, rfl, hp, h1⟩
  have HP1 : Hid (rsumP B at' e = fill16 (rawP B at' e 16) (rawP B at' e 16).length ∧ (rawP B at' e 16).length ≤ 16) := by
    unfold Hid rsumP rawP
    split
    · rename_i hc
      have hl : ((B.drop at').take 16).length = 16 := by rw [List.length_take, List.length_drop]; omega
      rw [hl, fill16_all hl]
      exact ⟨rfl, Nat.le_refl _⟩
    · exact ⟨rfl, by simp⟩
  obtain ⟨p, hpe⟩ : ∃ p, rawP B at' e 16 = p := ⟨_, rfl⟩
  rw [hpe] at hp hbytes HP1
  have hv := HoldsB.ofRow hbytes hp
  obtain ⟨a, n, cap, rfl, hn⟩ := hv.slice
  have hn16 : n ≤ 16 := by have := HP1.out.2; omega
  have HP : Hid (HoldsB w1 w1.heap.size (.slice a n cap) p) := hv
  have HN := Lib.hid hn
  have H1 := Lib.hid h1
  have HB1 := Lib.hid (H1.out.keep HBB.out (by omega))
  have HSZ := Lib.hid H1.out.size
  -- the bytes lie above the array
  have HP2 : Hid (∀ i, i < n → ∃ b off, a = some ⟨b, off, none⟩ ∧ W0.heap.size ≤ b ∧ w1.cell? ⟨b, off + i, none⟩ = some (.int .u8 (p.getD i 0))) := by
    intro i hi
    obtain ⟨b, off, rfl, -, hc⟩ := hv.cellAt (i := i) (by omega)
    exact ⟨b, off, rfl, (hp.lt b rfl).1, hc⟩
  clear hp hv hn h1 hpe hbytes
  go_wp2_with fail
  have hstart : Blk w1 (A + 1) (.cells (bv (fill16 p 0)).toArray 42) := HB1.out
  have HST := Lib.hid hstart
  clear hstart
  go_loopw [5] (fun c wr => ∃ i : Nat, i ≤ n ∧ c = .int .i64 i ∧ Blk wr (A + 1) (.cells (bv (fill16 p i)).toArray 42) ∧ (∀ j, j < w1.heap.size → j ≠ A + 1 → wr.heap[j]? = w1.heap[j]?) ∧ Below (A + 1) w1 wr) (fun c _ => n - (intOf c).toNat)
  case atStart => exact ⟨0, by omega, rfl, HST.out, fun _ _ _ => rfl, Below.refl _ _⟩
  case round =>
    obtain ⟨i, hi, rfl, hb, ho, hE⟩ := hrel
    have HBL := Lib.hid hb
    have HOT := Lib.hid ho
    have HEE := Lib.hid hE
    by_cases hlt : i < n
    · obtain ⟨b, off, rfl, hbb, hc⟩ := HP2.out i hlt
      have hbl := World.block_lt_of_cell? w1 _ hc
      have hc' : wr.cell? ⟨b, off + i, none⟩ = some (.int .u8 (p.getD i 0)) := (World.cell?_of_block (w := w1) (a := ⟨b, off + i, none⟩) (ho b hbl (by have := HS.out; omega))).trans hc
      have hcell := hb.cell i
      have hfl : i < (fill16 p i).length := by rw [fill16_len (by have := HN.out; omega) (by omega)]; omega
      have hcell' : wr.cell? ⟨A + 1, i, none⟩ = some (.int .u8 ((fill16 p i).getD i 0)) := by
        rw [hcell, List.getElem?_toArray, List.getElem?_map, List.getD_eq_getElem?_getD, List.getElem?_eq_getElem hfl]
        rfl
      have hfr := hb.frozen i
      have hlA := hb.lt
      have HSTEP := Lib.hid (fill16_step (p := p) (i := i) (by have := HN.out; omega) (by omega))
      generalize (fill16 p i).getD i 0 = y at hcell'
      generalize p.getD i 0 = x at hc' HSTEP
      have hi16 : i < 16 := by omega
      clear hb ho hE hc hcell hfl
      go_wp2_with fail
      refine ⟨⟨i + 1, by omega, by go_num, (HBL.out.set i _).trans (by rw [HSTEP.out]), fun j hj hne => by rw [Below.heap_setCell _ _ _ _ hne]; exact HOT.out j hj hne, HEE.out.setCell (Nat.le_refl _) _⟩, by simp [intOf]; omega⟩
    · obtain rfl : i = n := by omega
      have hfull : fill16 p i = rsumP B at' e := by rw [HP1.out.1, ← HN.out]
      have HG4 : Hid (wr.heap[A + 1]? = some (.cells (bv (rsumP B at' e)).toArray 42 (0, 0))) := by
        have := HBL.out
        rw [hfull] at this
        exact this
      have HA4 := Lib.hid ((H1.out.keep HBA.out (show A ≠ R by omega)).upto HEE.out (Nat.lt_succ_self A))
      have H4 : Hid (RefStep M R B (rawA B at' e 16) (rawE B at' e 16) w wr) := (RefStep.ahead (by rw [HA.out]; exact HE.out) H1.out).upto HEE.out (by rw [HA.out]; omega) (by rw [HA.out]; omega)
      have hc16 := Lib.hid (cells42 (rsumP_len B at' e))
      have H5 := Lib.hid (H4.out.upto (Below.row (Below.refl A wr) (Nat.le_refl A) (bv (rsumP B at' e)).toArray) (by rw [HA.out]; exact Nat.le_refl _) (by rw [HA.out]; omega))
      have HA5 := Lib.hid (HA4.out.setRow (bv (rsumP B at' e)).toArray)
      clear hfull hb ho hE
      go_wp2_with (first
        | (refine wpList_load_row rfl 42 (.tmp 3) rfl (A + 1) rfl 42 (bv (rsumP B at' e)).toArray (0, 0) _ HG4.out Try.underlying42 rfl hc16.out ?_)
        | (refine wpList_store_row rfl 42 (.tmp 2) (.tmp 20) rfl A (bv (rsumP B at' e)).toArray rfl rfl 42 _ HA4.out hc16.out (size51 (rsumP_len B at' e)) (bv_all _) ?_))
      refine bodyPost_ret (v := sumV (rsumP B at' e)) (results_cell_row Try.results44 _ _ A 42 _ (0, 0) _ rfl HA5.out Try.underlying42 rfl hc16.out) rfl ⟨rfl, H5.out⟩
end Go.Proofs.Ytgpjffchpppceaa
