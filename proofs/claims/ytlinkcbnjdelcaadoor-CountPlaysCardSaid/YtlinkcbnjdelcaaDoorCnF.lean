/-
  The document's text of all counters.
-/
import Derived.Test.YtlinkcbnjdelcaaDoorCnE
import Derived.Deep.Cut
namespace Go.Proofs.YtlinkcbnjdelcaaDoor
open Go.RowKit

theorem box_row {t : TypeId} {cs : List Value} (h1 : (Tryd.prog.info? t).map (·.size) = some cs.toArray.size) (w : World) : (Instr.box t (.agg cs.toArray)).run Tryd.prog w = .ok (.pointer (some ⟨w.heap.size, 0, none⟩)) (w.alloc (.cells cs.toArray t)) := by
  cases hq : Tryd.prog.info? t with
  | none => simp [hq] at h1
  | some i =>
    have hi : i.size = cs.toArray.size := by simpa [hq] using h1
    simp [Instr.box, newVar, sizeOf, typeInfo, hq, hi, Value.cells, newRow]
theorem info25s (f : Nat → Int) : (Tryd.prog.info? 25).map (·.size) = some (cl f).toArray.size := by rw [List.size_toArray, cl_len]; kernel_rfl
def dl (f : Nat → Int) (i : Nat) : List (List UInt8) := (itemsA f i).map (·.data.toList)
/-- The text of the first i. -/
def refA (f : Nat → Int) (i : Nat) : ByteArray := ⟨(Lib.join (dl f i) [32]).toArray⟩
theorem refA_end (f : Nat → Int) : refA f 19 = textA f := rfl
theorem joinTail_snoc (sep : List UInt8) (r : List (List UInt8)) (x : List UInt8) : Lib.joinTail sep (r ++ [x]) = Lib.joinTail sep r ++ (sep ++ x) := by simp [Lib.joinTail]
theorem join_snoc (sep : List UInt8) (l : List (List UInt8)) (x : List UInt8) (h : l ≠ []) : Lib.join (l ++ [x]) sep = (Lib.join l sep ++ sep) ++ x := by
  cases l with
  | nil => exact absurd rfl h
  | cons y r =>
    rw [List.cons_append, Lib.join_cons, Lib.join_cons, joinTail_snoc]
    simp
theorem part_list (f : Nat → Int) (i : Nat) : (partA f i).data.toList = ((nmA i).data.toList ++ [61]) ++ Lib.itoa (f i) := by
  unfold partA
  rw [Joins.data_append, Joins.data_append]
theorem part_ne (f : Nat → Int) (i : Nat) : (partA f i).data.toList ≠ [] := by
  rw [part_list]
  simp
theorem byte_ext {x y : ByteArray} (h : x.data.toList = y.data.toList) : x = y := by
  obtain ⟨⟨l⟩⟩ := x
  obtain ⟨⟨m⟩⟩ := y
  simp at h
  rw [h]
theorem refA_list (f : Nat → Int) (i : Nat) : (refA f i).data.toList = Lib.join (dl f i) [32] := by simp [refA]
theorem refA_size {f : Nat → Int} (h : I64s f) (i : Nat) : (refA f i).size ≤ i * 32 := by
  have h1 := join_le (dl f i) [32] 31 (fun x hx => by
    obtain ⟨y, hy, rfl⟩ := List.mem_map.1 hx
    obtain ⟨j, _, rfl⟩ := List.mem_map.1 hy
    have := partA_size h j
    simpa using this)
  have h2 : (dl f i).length ≤ i := by unfold dl; rw [List.length_map]; exact items_len f i
  have h3 := Nat.mul_le_mul_right 32 h2
  have h4 : (refA f i).size = (Lib.join (dl f i) [32]).length := by show (Lib.join (dl f i) [32]).toArray.size = _; simp
  simp at h1
  omega
theorem refA_no {f : Nat → Int} {i : Nat} (h : f i = 0) : refA f (i + 1) = refA f i := by
  unfold refA dl
  rw [items_no h]
theorem refA_first {f : Nat → Int} {i : Nat} (h : f i ≠ 0) (he : itemsA f i = []) : ((refA f i ++ nmA i) ++ ⟨#[61]⟩) ++ ⟨(Lib.itoa (f i)).toArray⟩ = refA f (i + 1) ∧ (refA f i).toList.isEmpty = true := by
  have hr : refA f i = ⟨#[]⟩ := by unfold refA dl; rw [he]; rfl
  refine ⟨byte_ext ?_, by rw [hr]; simp [ByteArray.toList_eq]⟩
  rw [refA_list]
  unfold dl
  rw [items_yes h, he, hr]
  simp only [List.nil_append, List.map_cons, List.map_nil]
  rw [Lib.join_one, part_list, Joins.data_append, Joins.data_append, Joins.data_append]
  simp
theorem refA_more {f : Nat → Int} {i : Nat} (h : f i ≠ 0) (he : itemsA f i ≠ []) : (((refA f i ++ ⟨#[32]⟩) ++ nmA i) ++ ⟨#[61]⟩) ++ ⟨(Lib.itoa (f i)).toArray⟩ = refA f (i + 1) ∧ (refA f i).toList.isEmpty = false := by
  have hd : dl f i ≠ [] := by unfold dl; simpa using he
  constructor
  · apply byte_ext
    rw [refA_list]
    have : dl f (i + 1) = dl f i ++ [(partA f i).data.toList] := by unfold dl; rw [items_yes h]; simp
    rw [this, join_snoc _ _ _ hd, part_list, Joins.data_append, Joins.data_append, Joins.data_append, Joins.data_append, refA_list]
    simp
  · rw [ByteArray.toList_eq, refA_list]
    cases hl : dl f i with
    | nil => exact absurd hl hd
    | cons x r =>
      rw [Lib.join_cons]
      have hx : x ≠ [] := by
        have : x ∈ dl f i := by rw [hl]; exact List.mem_cons_self ..
        obtain ⟨y, hy, rfl⟩ := List.mem_map.1 this
        obtain ⟨j, _, rfl⟩ := List.mem_map.1 hy
        exact part_ne f j
      cases x with
      | nil => exact absurd rfl hx
      | cons a x => rfl
set_option maxRecDepth 100000 in
set_option maxHeartbeats 6400000 in
theorem rtext_any (f : Nat → Int) (hf : I64s f) (w : World) : Calls Tryd.prog 9 #[.agg (cl f).toArray] w fun r w' => r = .returned (.string (textA f)) ∧ Below w.heap.size w w' := by
  have hA := fun (w : World) => box_row (t := 25) (cs := cl f) (info25s f) w
  have HF := Kp.mk hf
  obtain ⟨B, hB⟩ : ∃ B, B = w.heap.size := ⟨_, rfl⟩
  have HB := Kp.mk hB
  obtain ⟨w1, hw1⟩ : ∃ w1, w1 = w.alloc (.cells (cl f).toArray 25) := ⟨_, rfl⟩
  have HW1 := Kp.mk hw1
  have K1 : Kp (Blk w1 B (.cells (cl f).toArray 25) ∧ Below w.heap.size w w1) := ⟨by rw [hw1]; exact Blk.newAt _ hB, by rw [hw1]; exact more (Below.refl _ _) _⟩
  clear hB hw1 hf
  go_enter Tryd.func9, Tryd.ntmps9
  go_wp2_with (refine wpList_box_eq rfl 25 (.tmp 0) rfl _ rfl _ _ (hA _) ?_)
  rw [← HW1.out, ← HB.out]
  clear hA
  go_loopw [3, 4] (fun sv ct wr => ∃ (i : Nat) (S : ByteArray), i ≤ 19 ∧ ct = .int .i64 i ∧ sv = .string S ∧ Kp (S = refA f i) ∧ Kp (Blk wr B (.cells (cl f).toArray 25) ∧ Below w.heap.size w wr)) (fun _ ct _ => 19 - (intOf ct).toNat)
  case atStart => exact ⟨0, _, by omega, rfl, rfl, ⟨rfl⟩, K1⟩
  case round =>
    clear K1
    obtain ⟨i, S, hi19, rfl, rfl, HS, K2⟩ := hrel
    by_cases hlt : i < 19
    · have hlt' : (i : Int) < 19 := by omega
      have HLT := Kp.mk hlt
      have hc : wr.cell? ⟨B, i, none⟩ = some (.int .i64 (f i)) := (K2.out.1.cell i).trans (by rw [List.getElem?_toArray, cl_at _ hlt])
      by_cases h0 : f i = 0
      · have HI : Kp (S = refA f (i + 1)) := ⟨by rw [refA_no h0]; exact HS.out⟩
        rw [h0] at hc
        clear hlt
        go_wp2_with fail
        exact ⟨⟨i + 1, S, by have := HLT.out; omega, by go_num, rfl, HI, K2⟩, by have := HLT.out; simp [intOf]; omega⟩
      · have hne : (f i == 0) = false := by simp [h0]
        have HN : Kp (∀ wx, Calls Tryd.prog 14 #[.int .i64 i] wx fun r w' => r = .returned (.string (nmA i)) ∧ Below wx.heap.size wx w') := ⟨fun wx => by
          have := rname_any i wx
          rwa [name_ok HLT.out] at this⟩
        have HFM : Kp (∀ wx, Calls Tryd.prog 24 #[.int .i64 (f i)] wx fun r w' => r = .returned (.string ⟨(Lib.itoa (f i)).toArray⟩) ∧ Below wx.heap.size wx w') := ⟨fun wx => whole_any (f i) (HF.out i) wx⟩
        have s0 : S.size ≤ 608 := by rw [HS.out]; have := refA_size HF.out i; omega
        have s1 := nmA_size i
        have s2 := itoaA_size (HF.out i)
        have HR : Kp ((itemsA f i = [] → ((S ++ nmA i) ++ ⟨#[61]⟩) ++ ⟨(Lib.itoa (f i)).toArray⟩ = refA f (i + 1) ∧ S.toList.isEmpty = true) ∧ (itemsA f i ≠ [] → (((S ++ ⟨#[32]⟩) ++ nmA i) ++ ⟨#[61]⟩) ++ ⟨(Lib.itoa (f i)).toArray⟩ = refA f (i + 1) ∧ S.toList.isEmpty = false)) := ⟨by rw [HS.out]; exact ⟨refA_first h0, refA_more h0⟩⟩
        have HLD : Kp (∀ wx, Blk wx B (.cells (cl f).toArray 25) → wx.cell? ⟨B, i, none⟩ = some (.int .i64 (f i))) := ⟨fun wx hx => (hx.cell i).trans (by rw [List.getElem?_toArray, cl_at _ HLT.out])⟩
        obtain ⟨y, hy⟩ : ∃ y, y = nmA i := ⟨_, rfl⟩
        obtain ⟨z, hz⟩ : ∃ z : ByteArray, z = ⟨(Lib.itoa (f i)).toArray⟩ := ⟨_, rfl⟩
        obtain ⟨x, hx⟩ : ∃ x, x = f i := ⟨_, rfl⟩
        rw [← hy] at HN HR s1
        rw [← hz] at HFM HR s2
        rw [← hx] at HFM hc hne HLD
        clear hy hz hx h0 hlt HS
        have c1 : (ByteArray.mk #[61]).size = 1 := rfl
        have c2 : (ByteArray.mk #[32]).size = 1 := rfl
        by_cases he : itemsA f i = []
        case' pos =>
          obtain ⟨hR, hE⟩ := HR.out.1 he
          obtain ⟨S', hS'⟩ : ∃ S', S' = S := ⟨_, rfl⟩
          have s3 : S'.size ≤ 609 := by rw [hS']; omega
          rw [← hS'] at hR
          have HSS := Kp.mk hS'
          clear he hS'
          go_upto_region 8 with fail
          rw [← HSS.out]
        case' neg =>
          obtain ⟨hR, hE⟩ := HR.out.2 he
          obtain ⟨S', hS'⟩ : ∃ S', S' = S ++ ⟨#[32]⟩ := ⟨_, rfl⟩
          have s3 : S'.size ≤ 609 := by rw [hS', ByteArray.size_append]; omega
          have a0 : ∀ w, (Op.stringOp .add S ⟨#[32]⟩).run Tryd.prog w = .ok (.string S') w := fun w => by rw [hS']; exact run_string_add_sum w _ _ (by omega)
          rw [← hS'] at hR
          clear he hS'
          go_upto_region 8 with fail
        all_goals
          obtain ⟨S1, hS1⟩ : ∃ S1, S1 = S' ++ y := ⟨_, rfl⟩
          obtain ⟨S2, hS2⟩ : ∃ S2, S2 = S1 ++ ⟨#[61]⟩ := ⟨_, rfl⟩
          obtain ⟨S3, hS3⟩ : ∃ S3, S3 = S2 ++ z := ⟨_, rfl⟩
          have a1 : ∀ w, (Op.stringOp .add S' y).run Tryd.prog w = .ok (.string S1) w := fun w => by rw [hS1]; exact run_string_add_sum w _ _ (by omega)
          have z1 : S1.size ≤ 618 := by rw [hS1, ByteArray.size_append]; omega
          have a2 : ∀ w, (Op.stringOp .add S1 ⟨#[61]⟩).run Tryd.prog w = .ok (.string S2) w := fun w => by rw [hS2]; exact run_string_add_sum w _ _ (by omega)
          have z2 : S2.size ≤ 619 := by rw [hS2, ByteArray.size_append]; omega
          have a3 : ∀ w, (Op.stringOp .add S2 z).run Tryd.prog w = .ok (.string S3) w := fun w => by rw [hS3]; exact run_string_add_sum w _ _ (by omega)
          have HI : Kp (S3 = refA f (i + 1)) := ⟨by rw [hS3, hS2, hS1]; exact hR⟩
          have HN2 := HN.out
          have HF2 := HFM.out
          clear hS1 hS2 hS3 z1 z2 s0 s1 s2 s3 hR hE HN HFM
          refine wp_region_flow_vars (fun w' => Blk w' B (.cells (cl f).toArray 25) ∧ Below w.heap.size w w') [0, 1, 2, 3, 4, 5, 6, 7, 8, 9] [] [10] (fun _ => .cells #[] 0) (by kernel_rfl) (by kernel_rfl) (by kernel_rfl) (by decide)
            (fun _ _ h hb => ⟨h.1.keep hb, h.2.trans (hb.mono h.2.size)⟩) ⟨K2.out.1.draw, K2.out.2.drew⟩ (by simp) (by decide) ?_
          refine flowN_sel _ _ (by decide) ?_
          simp only [sel, List.filterMap_cons, List.filterMap_nil, List.getElem?_toArray, List.getElem?_cons_succ, List.getElem?_cons_zero]
          repeat (first
            | (apply Flow.call
               · rfl
               · intro wx hS; go_simp; constructor <;> with_reducible rfl
               · intro wx hS; with_reducible exact HN2 wx
               try simp only [Act.put, List.setIfInBounds_toArray, List.set_cons_zero, List.set_cons_succ])
            | (apply Flow.call
               · rfl
               · intro wx hS; go_simp; constructor <;> with_reducible rfl
               · intro wx hS; with_reducible exact HF2 wx
               try simp only [Act.put, List.setIfInBounds_toArray, List.set_cons_zero, List.set_cons_succ])
            | (apply Flow.value
               · rfl
               · (intro wx hS; have c1 := HLD.out wx hS.1; go_simp; with_reducible rfl)
               try simp only [Act.put, List.setIfInBounds_toArray, List.set_cons_zero, List.set_cons_succ]))
          refine Flow.done ?_
          intro γ w4 hS hn hg
          simp only [putNew]
          have K4 : Kp (Blk w4 B (.cells (cl f).toArray 25) ∧ Below w.heap.size w w4) := ⟨hS⟩
          clear hS hn hg K2
          refine wpOps_step rfl (by rfl) ?_
          go_simp
          refine wpOps_done ?_
          go_wp2_with fail
          exact ⟨⟨i + 1, S3, by have := HLT.out; omega, by go_num, rfl, HI, K4⟩, by have := HLT.out; simp [intOf]; omega⟩
    · have hi : i = 19 := by omega
      subst hi
      have KF : Kp (S = textA f ∧ Below w.heap.size w wr) := ⟨by rw [HS.out, refA_end], K2.out.2⟩
      clear K2 hlt HS
      go_wp2_with fail
      go_ret
      exact ⟨by rw [← KF.out.1]; rfl, KF.out.2⟩
end Go.Proofs.YtlinkcbnjdelcaaDoor
