/-
  The two Lookups of layer 22.
-/
import Derived.Test.YtkeoebldadpoiaaFbA
namespace Go.Proofs.Ytkeoebldadpoiaa
open Go.RowKit

def IdxPost (l : List H3) (dest : Int) (w : World) (r : Ending) (w' : World) : Prop := ∃ k, FirstP l dest k ∧ r = .returned (.int .i64 k) ∧ Below w.heap.size w w'
set_option maxHeartbeats 1600000 in
theorem index_any (l : List H3) (dest : Int) (M B : Nat) (v : Value) (w : World) (hv : HoldsF hc 3 w M v l) (hB : Blk w B (.cells #[.int .i64 dest] 3)) :
    Calls Try.prog 20 #[v, .func (.func 21) #[] #[.pointer (some ⟨B, 0, none⟩)]] w (IdxPost l dest w) := by
  obtain ⟨a, cap, rfl⟩ := hv.shape
  have HV := Kp.mk hv
  have HB := Kp.mk hB
  have HL : Kp (l.length ≤ maxLen) := ⟨hv.len⟩
  clear hv hB
  obtain ⟨n, hn⟩ : ∃ n, n = l.length := ⟨_, rfl⟩
  rw [← hn] at HV ⊢
  have HN := Kp.mk hn
  have hnm : n ≤ 9223372036854775807 := by have := HL.out; unfold maxLen at this; omega
  clear hn HL
  obtain ⟨A, hA⟩ : ∃ A, A = w.heap.size := ⟨_, rfl⟩
  have HAe := Kp.mk hA
  clear hA
  go_enter Try.func20, Try.ntmps20
  go_wp2_with fail
  go_loopw [5, 8] (fun _ c wr => ∃ i : Nat, i ≤ n ∧ c = .int .i64 i ∧ Kp (∀ j, j < i → (l.getD j default).d ≠ dest) ∧ Kp (Below A w wr) ∧ Kp (A ≤ wr.heap.size)) (fun _ c _ => n - (intOf c).toNat)
  case atStart => exact ⟨0, by omega, rfl, ⟨fun j hj => by omega⟩, ⟨by rw [HAe.out]; exact Below.refl _ _⟩, ⟨by rw [HAe.out]; exact Nat.le_refl _⟩⟩
  case round =>
    obtain ⟨i, hi, rfl, HNE, E0, Z0⟩ := hrel
    by_cases hlt : i < n
    · obtain ⟨b, off, rfl, hbs, hbM, h0, h1, h2⟩ := HV.out.hop (i := i) (by rw [← HN.out]; exact hlt)
      have HHI := Kp.mk hlt
      have d0 := (E0.out.cell (p := ⟨b, off + i * 3, none⟩) (by rw [HAe.out]; exact hbs)).trans h0
      have d1 := (E0.out.cell (p := ⟨b, off + i * 3 + 1, none⟩) (by rw [HAe.out]; exact hbs)).trans h1
      have d2 := (E0.out.cell (p := ⟨b, off + i * 3 + 2, none⟩) (by rw [HAe.out]; exact hbs)).trans h2
      clear h0 h1 h2 hbs hbM
      have HG := Kp.mk (rfl : l.getD i default = l.getD i default)
      revert HG
      generalize hh : l.getD i default = h at d0 d1 d2
      intro _
      have HH := Kp.mk hh
      clear hh
      have t1 : (i : Int) < n := by omega
      go_wp2_with fail
      refine (isdest_any h dest B _ (by exact HB.out.upto E0.out (by rw [HAe.out]; exact HB.out.lt))).mono ?_
      rintro r w1 ⟨rfl, hb⟩
      have E1 : Kp (Below A w w1) := ⟨E0.out.trans (hb.mono Z0.out)⟩
      have Z1 : Kp (A ≤ w1.heap.size) := ⟨Nat.le_trans Z0.out hb.size⟩
      clear hb d0 d1 d2
      cases hd : (h.d == dest) with
      | false =>
        have HD := Kp.mk hd
        clear hd
        go_wp2_with fail
        exact ⟨⟨i + 1, by omega, by go_num, ⟨fun j hj => by
          by_cases hji : j < i
          · exact HNE.out j hji
          · obtain rfl : j = i := by omega
            rw [HH.out]; simpa using HD.out⟩, E1, Z1⟩, by simp [intOf]; omega⟩
      | true =>
        have HD := Kp.mk hd
        clear hd
        go_wp2_with fail
        go_ret
        exact ⟨(i : Int), .inr ⟨i, by rw [← HN.out]; exact HHI.out, rfl, HNE.out, by rw [HH.out]; simpa using HD.out⟩, rfl, by rw [← HAe.out]; exact E1.out⟩
    · obtain rfl : i = n := by omega
      go_wp2_with fail
      go_ret
      exact ⟨-1, .inl ⟨rfl, by rw [← HN.out]; exact HNE.out⟩, rfl, by rw [← HAe.out]; exact E0.out⟩
set_option maxHeartbeats 1600000 in
theorem lookup_any (l : List H3) (dest : Int) (M : Nat) (v : Value) (w : World) (hv : HoldsF hc 3 w M v l) :
    Calls Try.prog 12 #[v, .int .i64 dest] w fun r w' => r = .returned (.int .i64 (lookF l dest)) ∧ Below w.heap.size w w' := by
  obtain ⟨a, cap, rfl⟩ := hv.shape
  have HV := Kp.mk hv
  have HL : Kp (l.length ≤ maxLen) := ⟨hv.len⟩
  clear hv
  go_enter Try.func12, Try.ntmps12
  go_wp2_with fail
  refine (index_any l dest M _ _ _ (HV.out.below (more (Below.refl _ _) _)) (Blk.new _ _)).mono ?_
  rintro r w1 ⟨k, hk, rfl, hb⟩
  have hb2 : Below w.heap.size w w1 := (more (Below.refl _ _) _).trans (hb.mono (by simp))
  have E := Kp.mk hb2
  clear hb hb2
  rcases hk with ⟨rfl, hne⟩ | ⟨i, hi, rfl, hne, he⟩
  · have HQ : Kp (lookF l dest = -1) := ⟨look_none l dest hne⟩
    clear hne
    go_wp2_with fail
    go_ret
    exact ⟨reti HQ.out.symm, E.out⟩
  · have HQ : Kp (lookF l dest = (l.getD i default).n) := ⟨look_at l dest i hi hne he⟩
    obtain ⟨b, off, rfl, hbs, hbM, h0, h1, h2⟩ := HV.out.hop (i := i) hi
    have d1 := (E.out.cell (p := ⟨b, off + i * 3 + 1, none⟩) hbs).trans h1
    have t0 : ¬ ((i : Int) < 0) := by omega
    have t1 : (i : Int) < l.length := by omega
    have t2 : decide ((i : Int) < 0) = false := by simp
    clear hne he h0 h1 h2 hbs hbM
    generalize l.getD i default = h at d1 HQ
    go_wp2_with fail
    go_ret
    exact ⟨reti HQ.out.symm, E.out⟩
set_option maxHeartbeats 1600000 in
theorem rlookup_any (l : List H3) (dest : Int) (M : Nat) (v : Value) (w : World) (hv : HoldsF hc 3 w M v l) :
    Calls Try.prog 13 #[v, .int .i64 dest] w fun r w' => r = .returned (.int .i64 (lookF l dest)) ∧ w = w' := by
  obtain ⟨a, cap, rfl⟩ := hv.shape
  have HV := Kp.mk hv
  have HL : Kp (l.length ≤ maxLen) := ⟨hv.len⟩
  clear hv
  obtain ⟨n, hn⟩ : ∃ n, n = l.length := ⟨_, rfl⟩
  rw [← hn] at HV ⊢
  have HN := Kp.mk hn
  have hnm : n ≤ 9223372036854775807 := by have := HL.out; unfold maxLen at this; omega
  clear hn HL
  go_enter Try.func13, Try.ntmps13
  go_wp2_with fail
  go_loop [5] (fun c => ∃ i : Nat, i ≤ n ∧ c = .int .i64 i ∧ Kp (∀ j, j < i → (l.getD j default).d ≠ dest)) (fun c => n - (intOf c).toNat)
  case atStart => exact ⟨0, by omega, rfl, ⟨fun j hj => by omega⟩⟩
  case round =>
    obtain ⟨i, hi, rfl, HNE⟩ := hrel
    by_cases hlt : i < n
    · obtain ⟨b, off, rfl, hbs, hbM, h0, h1, h2⟩ := HV.out.hop (i := i) (by rw [← HN.out]; exact hlt)
      have HHI := Kp.mk hlt
      clear h2 hbs hbM
      have t1 : (i : Int) < n := by omega
      have HG : Kp ((l.getD i default).d = dest → lookF l dest = (l.getD i default).n) := ⟨fun hd => look_at l dest i (by rw [← HN.out]; exact hlt) HNE.out hd⟩
      generalize hh : l.getD i default = h at h0 h1 HG
      have HH := Kp.mk hh
      clear hh
      cases hd : (h.d == dest) with
      | false =>
        have HD := Kp.mk hd
        go_wp2_with fail
        exact ⟨⟨i + 1, by omega, by go_num, ⟨fun j hj => by
          by_cases hji : j < i
          · exact HNE.out j hji
          · obtain rfl : j = i := by omega
            rw [HH.out]; simpa using HD.out⟩⟩, by simp [intOf]; omega⟩
      | true =>
        have HQ : Kp (lookF l dest = h.n) := ⟨HG.out (by simpa using hd)⟩
        clear HG
        go_wp2_with fail
        go_ret
        exact ⟨reti HQ.out.symm, rfl⟩
    · obtain rfl : i = n := by omega
      go_wp2_with fail
      go_ret
      exact ⟨reti (look_none l dest (by rw [← HN.out]; exact HNE.out)).symm, rfl⟩
end Go.Proofs.Ytkeoebldadpoiaa
