/-
  bytes.Equal; whether a piece is of the body that is under way.
-/
import Derived.Test.YtlgcpfeaecpocaaPcD
namespace Go.Proofs.Ytlgcpfeaecpocaa
open Go.RowKit

theorem bytes_inj {p q : List Int} (hp : Bytes p) (hq : Bytes q) : (p.map fun n => UInt8.ofNat n.toNat) = (q.map fun n => UInt8.ofNat n.toNat) ↔ p = q := by
  refine ⟨fun h => ?_, fun h => by rw [h]⟩
  induction p generalizing q with
  | nil => cases q with
    | nil => rfl
    | cons y r => simp at h
  | cons x p ih => cases q with
    | nil => simp at h
    | cons y r =>
      simp only [List.map_cons, List.cons.injEq] at h
      have hx := hp x (by simp)
      have hy := hq y (by simp)
      have h1 := congrArg UInt8.toNat h.1
      rw [UInt8.toNat_ofNat', UInt8.toNat_ofNat'] at h1
      have e : x = y := by omega
      rw [e, ih (fun z hz => hp z (List.mem_cons_of_mem _ hz)) (fun z hz => hq z (List.mem_cons_of_mem _ hz)) h.2]
theorem text_eq {p q : List Int} (hp : Bytes p) (hq : Bytes q) : ((strOfNums p).toList == (strOfNums q).toList) = decide (p = q) := by
  rw [Bool.eq_iff_iff, beq_iff_eq, decide_eq_true_iff]
  refine ⟨fun h => (bytes_inj hp hq).1 ?_, fun h => by rw [h]⟩
  have h2 : (strOfNums p).data.toList = (strOfNums q).data.toList := by
    rw [ByteArray.toList_eq, ByteArray.toList_eq] at h
    exact h
  exact h2
theorem equal_any (M N : Nat) (v u : Value) (p q : List Int) (w : World) (hp : HoldsB w M v p) (hq : HoldsB w N u q) :
    Calls Try.prog 61 #[v, u] w fun r w' => r = .returned (.bool (decide (p = q))) ∧ w' = w := by
  have hv := hp.text
  have hu := hq.text
  have HE := Kp.mk (text_eq hp.bytes hq.bytes)
  obtain ⟨a, n, cap, rfl, -⟩ := hp.slice
  obtain ⟨a2, m, cap2, rfl, -⟩ := hq.slice
  clear hp hq
  generalize strOfNums p = sp at hv HE
  generalize strOfNums q = sq at hu HE
  go_enter Try.func61, Try.ntmps61
  go_wp2_with fail
  go_ret
  exact ⟨retb HE.out, rfl⟩
/-- What look answers. -/
def lookE (J : PjM) (p : PV) : Int :=
  if rightB p = false then 1 else if (!J.began || decide (J.id < p.id)) = true then 0 else if p.id < J.id ∨ J.ps.length = 0 then 27 else if p.many = J.ps.length then 0 else 10
set_option maxHeartbeats 2000000 in
theorem look_any (g q : Nat) (J : PjM) (p : PV) (w : World) (h : JIs w g q J) : Calls Try.prog 41 #[jP g, p.v] w fun r w' => r = .returned (.int .i64 (lookE J p)) ∧ Below w.heap.size w w' := by
  have H := Kp.mk h
  have HG : Kp (g < w.heap.size) := ⟨h.b.lt⟩
  clear h
  obtain ⟨N, hN⟩ : ∃ N, N = J.ps.length := ⟨_, rfl⟩
  obtain ⟨A, hA⟩ : ∃ A, A = pa q J.ps.length := ⟨_, rfl⟩
  obtain ⟨E, hE⟩ : ∃ E, E = lookE J p := ⟨_, rfl⟩
  rw [← hE]
  have HEE := Kp.mk hE
  have HN := Kp.mk hN
  have HN32 : N ≤ 32 := by rw [hN]; exact H.out.n
  have HB0 : Kp (∀ w', Below w.heap.size w w' → Blk w' g (jObj ⟨J.began, J.id, A, N, N⟩)) := ⟨fun w' hb => by rw [hA, hN]; exact H.out.b.keep hb⟩
  clear hN hA hE
  go_enter Try.func41, Try.ntmps41
  go_wp2_with fail
  refine (right_any p _).mono ?_
  rintro r w1 ⟨rfl, hb⟩
  have HB1 : Kp (Below w.heap.size w w1) := ⟨(more (Below.refl _ _) _).trans (hb.mono (by simp))⟩
  have hP := (Blk.new w (.cells #[.int .u32 p.id, .int .i64 p.at_, .int .i64 p.many, .slice p.a p.n p.c] 30)).keep hb
  have p0 : w1.cell? ⟨w.heap.size, 0, none⟩ = some (.int .u32 p.id) := hP.cell 0
  have p1 : w1.cell? ⟨w.heap.size, 1, none⟩ = some (.int .i64 p.at_) := hP.cell 1
  have p2 : w1.cell? ⟨w.heap.size, 2, none⟩ = some (.int .i64 p.many) := hP.cell 2
  have p3 : w1.cell? ⟨w.heap.size, 3, none⟩ = some (.slice p.a p.n p.c) := hP.cell 3
  have HJ1 := Kp.mk (HB0.out w1 HB1.out)
  obtain ⟨⟨c0, c1, c2⟩, -⟩ := jcells HJ1.out
  obtain ⟨F, hF⟩ : ∃ F, F = w.heap.size := ⟨_, rfl⟩
  rw [← hF] at p0 p1 p2 p3 ⊢
  have HFe := Kp.mk hF
  clear hb hP hF
  cases hr : rightB p with
  | false =>
    have HE : Kp (E = 1) := ⟨by rw [HEE.out]; unfold lookE; rw [if_pos hr]⟩
    clear hr
    go_wp2_with fail
    go_ret
    exact ⟨reti HE.out.symm, HB1.out⟩
  | true =>
    have HRR := Kp.mk hr
    clear hr
    go_wp2_with fail
    refine (isNext_any g _ p.id w1 HJ1.out).mono ?_
    rintro r w2 ⟨rfl, rfl⟩
    have hnn : nextB ⟨J.began, J.id, A, N, N⟩ p.id = (!J.began || decide (J.id < p.id)) := rfl
    rw [hnn]
    cases hn : (!J.began || decide (J.id < p.id)) with
    | true =>
      have HE : Kp (E = 0) := ⟨by rw [HEE.out]; unfold lookE; rw [if_neg (by rw [HRR.out]; decide), if_pos hn]⟩
      clear hn hnn
      go_wp2_with fail
      go_ret
      exact ⟨reti HE.out.symm, HB1.out⟩
    | false =>
      have HNN := Kp.mk hn
      clear hn hnn
      have CB : Kp (∀ n, Calls Try.prog 60 #[jP g] (w1.drewN n) fun r w' => r = .returned (.bool (decide (N = 0))) ∧ w1.drewN n = w') := ⟨fun n => isOver_any g ⟨J.began, J.id, A, N, N⟩ (w1.drewN n) HJ1.out⟩
      by_cases h1 : p.id < J.id
      · have HE : Kp (E = 27) := ⟨by rw [HEE.out]; unfold lookE; rw [if_neg (by rw [HRR.out]; decide), if_neg (by rw [HNN.out]; decide), if_pos (.inl h1)]⟩
        go_wp2_with fail
        go_quiet (fail)
        go_wp2_with fail
        go_ret
        exact ⟨reti HE.out.symm, below_drewN HB1.out _⟩
      · by_cases h2 : N = 0
        · have HE : Kp (E = 27) := ⟨by rw [HEE.out]; unfold lookE; rw [if_neg (by rw [HRR.out]; decide), if_neg (by rw [HNN.out]; decide), if_pos (.inr (by rw [← HN.out]; exact h2))]⟩
          rw [decide_eq_true h2] at CB
          go_wp2_with fail
          go_quiet ((go_at_call 60; exact (CB.out _).mono fun e w2 h => ⟨h.1, _, h.2.symm⟩))
          go_wp2_with fail
          go_ret
          exact ⟨reti HE.out.symm, below_drewN HB1.out _⟩
        · rw [decide_eq_false h2] at CB
          go_wp2_with fail
          go_quiet ((go_at_call 60; exact (CB.out _).mono fun e w2 h => ⟨h.1, _, h.2.symm⟩))
          have HB2 := Kp.mk (below_drewN HB1.out nq)
          have q2 : (w1.drewN nq).cell? ⟨F, 2, none⟩ = some (.int .i64 p.many) := p2
          have e2 : (w1.drewN nq).cell? ⟨g, 2, none⟩ = some (.slice A N N) := c2
          clear p0 p1 p2 p3 c0 c1 c2
          generalize w1.drewN nq = w3 at *
          by_cases h3 : p.many = N
          · have HE : Kp (E = 0) := ⟨by rw [HEE.out]; unfold lookE; rw [if_neg (by rw [HRR.out]; decide), if_neg (by rw [HNN.out]; decide), if_neg (by rw [← HN.out]; omega), if_pos (by rw [← HN.out]; exact h3)]⟩
            rw [h3] at q2
            go_wp2_with fail
            go_quiet (fail)
            go_wp2_with fail
            go_ret
            exact ⟨reti HE.out.symm, below_drewN HB2.out _⟩
          · have HE : Kp (E = 10) := ⟨by rw [HEE.out]; unfold lookE; rw [if_neg (by rw [HRR.out]; decide), if_neg (by rw [HNN.out]; decide), if_neg (by rw [← HN.out]; omega), if_neg (by rw [← HN.out]; exact h3)]⟩
            have h3' : (p.many == (N : Int)) = false := by simpa using h3
            have h3'' : (p.many != (N : Int)) = true := by simpa using h3
            go_wp2_with fail
            go_quiet (fail)
            go_wp2_with fail
            go_ret
            exact ⟨reti HE.out.symm, below_drewN HB2.out _⟩
end Go.Proofs.Ytlgcpfeaecpocaa
