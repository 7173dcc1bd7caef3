/-
  The program's Dests; rows of ints.
-/
import Derived.Test.YtoembbdjpelogaaFlA
namespace Go.Proofs.Ytoembbdjpelogaa
open Go.RowKit Go.Maps

/-- The destinations that have a floor, of those below i. -/
def dl (F : Int → Option K3) (i : Nat) : List Int := ((List.range i).filter fun d : Nat => (F (d : Int)).isSome).map fun d : Nat => (d : Int)
theorem dl_yes {F : Int → Option K3} {i : Nat} (h : (F i).isSome = true) : dl F (i + 1) = dl F i ++ [(i : Int)] := by
  simp [dl, List.range_succ, List.filter_append, h]
theorem dl_no {F : Int → Option K3} {i : Nat} (h : (F i).isSome = false) : dl F (i + 1) = dl F i := by
  simp [dl, List.range_succ, List.filter_append, h]
theorem dl_len (F : Int → Option K3) (i : Nat) : (dl F i).length ≤ i := by
  unfold dl
  rw [List.length_map]
  exact Nat.le_trans (List.length_filter_le _ _) (by simp)
abbrev iv (l : List Int) : List Value := l.map (Value.int .i64)
theorem info3' : (Try.prog.info? 3).map (fun i => (i.zero, i.size, i.bytes)) = some (some (.int .i64 0), 1, 8) := by kernel_rfl
theorem below_row_grownF {B : Nat} {w0 w w' : World} {e : TypeId} {size n : Nat} {v : Value} {xs : List Value} (h : Below B w0 w) (hB : B ≤ w.heap.size) (ho : w.ownsRow B e size v n xs) (hg : w.grownBy w' v.ownBlock) : Below B w0 w' :=
  h.grown hg hB (fun k hk => (ho.lt k hk.symm.symm).1)
theorem ownsRow_belowF {w w' : World} {base size n : Nat} {e : TypeId} {v : Value} {xs : List Value} (h : w.ownsRow base e size v n xs) (hb : Below w.heap.size w w') : w'.ownsRow base e size v n xs := by
  refine h.kept (row := none) ⟨hb.os, hb.tape, hb.output, hb.size, fun k hk _ => hb.block k hk⟩ ?_
  cases v.ownBlock with
  | none => exact .inl rfl
  | some k => exact .inr (by simp)
set_option maxRecDepth 100000 in
set_option maxHeartbeats 3200000 in
theorem dests_any (B M n : Nat) (F : Int → Option K3) (w : World) (hB : Blk w B (floObj M)) (hM : MapIs w M n F) :
    Calls Try.prog 35 #[.pointer (some ⟨B, 0, none⟩)] w fun r w' => ∃ v, r = .returned v ∧ w'.ownsRow w.heap.size 3 1 v (dl F 8).length (iv (dl F 8)) ∧ Below w.heap.size w w' := by
  have HB := Kp.mk hB
  have HM := Kp.mk hM
  obtain ⟨i0, hi, hz0, hz1, hz2⟩ := info_parts info3'
  clear hB hM
  obtain ⟨A, hA⟩ : ∃ A, A = w.heap.size := ⟨_, rfl⟩
  have HAe := Kp.mk hA
  clear hA
  go_enter Try.func35, Try.ntmps35
  go_wp2_with fail
  go_loopw [3, 7] (fun v ct wr => ∃ i : Nat, i ≤ 8 ∧ ct = .int .i64 i ∧ Kp (wr.ownsRow A 3 1 v (dl F i).length (iv (dl F i))) ∧ Kp (Below A w wr) ∧ Kp (A ≤ wr.heap.size)) (fun _ ct _ => 8 - (intOf ct).toNat)
  case atStart => exact ⟨0, by omega, rfl, ⟨World.ownsRow_nil _ _ _ _⟩, ⟨by rw [HAe.out]; exact Below.refl _ _⟩, ⟨by rw [HAe.out]; exact Nat.le_refl _⟩⟩
  case round =>
    obtain ⟨i, hi8, rfl, HO, E0, Z0⟩ := hrel
    by_cases hlt : i < 8
    · go_wp2_with fail
      have hk : (dkey (i : Int)).wf = true := by
        have h1 : IntKind.i64.min = -9223372036854775808 := rfl
        have h2 : IntKind.i64.max = 9223372036854775807 := rfl
        simp [Lit.wf, h1, h2]
        omega
      refine (get_any B M n F i _ (HB.out.keep (by rw [← HAe.out]; exact E0.out)) (HM.out.keep (by rw [← HAe.out]; exact E0.out)) hk).mono ?_
      rintro r w1 ⟨rfl, hb⟩
      have HO1 := Kp.mk (ownsRow_belowF HO.out hb)
      have E1 : Kp (Below A w w1) := ⟨E0.out.trans (hb.mono Z0.out)⟩
      have Z1 : Kp (A ≤ w1.heap.size) := ⟨Nat.le_trans Z0.out hb.size⟩
      clear hb HO E0 Z0
      cases hs : (F i).isSome with
      | false =>
        have HD : Kp (dl F (i + 1) = dl F i) := ⟨dl_no hs⟩
        clear hs
        go_wp2_with fail
        exact ⟨⟨i + 1, by omega, by go_num, ⟨by rw [HD.out]; exact HO1.out.alloc _⟩, ⟨E1.out.alloc Z1.out _⟩, ⟨by have := Z1.out; simp; omega⟩⟩, by simp [intOf]; omega⟩
      | true =>
        have HD : Kp (dl F (i + 1) = dl F i ++ [(i : Int)]) := ⟨dl_yes hs⟩
        have HL := Kp.mk (dl_len F i)
        generalize (F i).getD (0, 0, 0) = y
        clear hs
        obtain ⟨l, hl⟩ : ∃ l, l = dl F i := ⟨_, rfl⟩
        rw [← hl] at HO1 HD HL
        clear hl
        go_wp2_with (at_builtin; refine wpList_append_own _ rfl _ _ 61 rfl A 3 i0 (.int .i64 0) 1 8 Try.underlying61 hi hz0 hz1 hz2 rfl (by decide) _ l.length (iv l) rfl ((HO1.out.alloc _).alloc _) ⟨w1.heap.size + 1, 0, none⟩ 1 1 [.int .i64 i] rfl rfl ?c1 ?c2 ?c3 ?c4 ?c5 ?_)
        case c1 =>
          intro j u hj
          match j, hj with
          | 0, hj => simp at hj; subst hj; simp [Addr.add]
        case c2 =>
          intro u hu
          simp at hu
          subst hu
          rfl
        case c3 => have := HL.out; unfold maxLen; omega
        case c4 => have := HL.out; omega
        case c5 => have := Z1.out; simp; omega
        · intro v' w3 hown' hgrow _
          have HO3 := Kp.mk hown'
          have HG3 := Kp.mk hgrow
          clear hown' hgrow
          go_wp2_with fail
          refine ⟨⟨i + 1, by omega, by go_num, ⟨by have h9 := HO3.out; rw [HD.out]; simpa [iv] using h9⟩, ⟨below_row_grownF ((E1.out.alloc Z1.out _).alloc (by have := Z1.out; simp; omega) _) (by have := Z1.out; simp; omega) ((HO1.out.alloc _).alloc _) HG3.out⟩, ⟨by have h8 := HG3.out.size; have := Z1.out; simp at h8; omega⟩⟩, by simp [intOf]; omega⟩
    · obtain rfl : i = 8 := by omega
      go_wp2_with fail
      go_ret
      exact ⟨_, rfl, by rw [← HAe.out]; exact HO.out, by rw [← HAe.out]; exact E0.out⟩
end Go.Proofs.Ytoembbdjpelogaa
