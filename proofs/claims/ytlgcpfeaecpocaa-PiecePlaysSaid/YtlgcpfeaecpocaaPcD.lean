/-
  bytes.Clone, append of bytes, and what is there, in order.
-/
import Derived.Test.YtlgcpfeaecpocaaPcC
namespace Go.Proofs.Ytlgcpfeaecpocaa
open Go.RowKit

set_option maxHeartbeats 800000 in
theorem clone_any (M : Nat) (v : Value) (l : List Int) (w : World) (h : HoldsB w M v l) (hr : l.length ≤ 140737488351232) :
    Calls Try.prog 40 #[v] w fun r w' => ∃ v', r = .returned v' ∧ w'.ownsRow w.heap.size 5 1 v' l.length (bv l) ∧ Below w.heap.size w w' := by
  obtain ⟨i0, hi, hz0, hz1, hz2⟩ := info_parts info5
  have q23 : ∀ (w : World) (a : Option Addr) (n c n' c' : Nat), (binOp .eql 23 (.slice a n c) (.slice none n' c')).run Try.prog w = .ok (.bool a.isNone) w := fun w a n c n' c' => Lib.run_eql_slice_nil w _ _ a n c n' c' Try.underlying23
  obtain ⟨a, n, cap, rfl, hn⟩ := h.slice
  cases a with
  | none =>
    have hl : l = [] := by
      obtain ⟨a', cap', h1, h2, h3, h4, h5, h6, h7⟩ := h
      simp only [Value.slice.injEq] at h1
      have := h4 h1.1.symm
      exact List.length_eq_zero_iff.1 (by omega)
    have hc : cap = 0 := by
      obtain ⟨a', cap', h1, h2, h3, h4, h5, h6, h7⟩ := h
      simp only [Value.slice.injEq] at h1
      have := h4 h1.1.symm
      omega
    subst hl hc
    have hn0 : n = 0 := by simpa using hn
    subst hn0
    clear h hn
    go_enter Try.func40, Try.ntmps40
    go_wp2_with fail
    go_ret
    exact ⟨_, rfl, World.ownsRow_nil _ _ _ _, Below.refl _ _⟩
  | some ad =>
    have HH := Lib.hid h
    have HN := Lib.hid hn
    have hn2 : n ≤ 140737488351232 := by omega
    clear h hn hr
    go_enter Try.func40, Try.ntmps40
    go_wp2_with (at_builtin; refine wpList_append_own _ rfl _ _ 23 rfl w.heap.size 5 i0 (.int .u8 0) 1 1 Try.underlying23 hi hz0 hz1 hz2 rfl (by decide) _ _ _ rfl (World.ownsRow_made w #[] 0 (Nat.le_refl _) (by decide) rfl) ad n cap (bv l) rfl ?c0 ?c1 ?c2 ?c3 ?c4 ?c5 ?_)
    case c0 => rw [bv_len, HN.out]
    case c1 => exact (HH.out.alloc _).news
    case c2 => exact bv_one _
    case c3 => unfold maxLen; omega
    case c4 => omega
    case c5 => simp
    · intro v' w2 hown' hgrow _
      have HO2 := Lib.hid hown'
      have HG2 := Lib.hid hgrow
      clear hown' hgrow
      go_wp2_with fail
      go_ret
      refine ⟨_, rfl, ?_, (more (Below.refl _ _) _).grown HG2.out (by simp) (fun k hk => ?_)⟩
      · have h1 := HO2.out
        have h2 := HN.out
        subst h2
        exact h1
      · simp [Value.ownBlock] at hk
        omega
/-- append of bytes that stand somewhere, to a row of the call's own. -/
theorem wpList_append_holds {w : World} {ops : Array Oper} {rest : List Oper} {o : Oper} {a : Act} {Q : Exit → Act → World → Prop} (hgd : o.guard = none) (s x : Operand)
    (ho : o.op = .call { callee := .builtin .append, args := #[s, x], argTypes := #[23, 23] })
    (base : Nat) (v : Value) (n : Nat) (xs : List Value) (hs : a.eval s = v) (hown : w.ownsRow base 5 1 v n xs)
    (M : Nat) (u : Value) (p : List Int) (hx : a.eval x = u) (hp : HoldsB w M u p) (h63 : n + p.length ≤ 140737488355328) (hbase : base ≤ w.heap.size)
    (h : ∀ v' w', w'.ownsRow base 5 1 v' (n + p.length) (xs ++ bv p) → w.grownBy w' v.ownBlock → wpList Try.prog ops Q rest (a.put o.dst v') w') : wpList Try.prog ops Q (o :: rest) a w := by
  obtain ⟨i0, hi, hz0, hz1, hz2⟩ := info_parts info5
  obtain ⟨ad, m, cap, rfl, hm⟩ := hp.slice
  cases ad with
  | none =>
    obtain ⟨a', cap', h1, h2, h3, h4, h5, h6, h7⟩ := hp
    simp only [Value.slice.injEq] at h1
    have hc := h4 h1.1.symm
    have hl : p = [] := List.length_eq_zero_iff.1 (by omega)
    subst hl
    have hx' : a.eval x = .slice none 0 0 := by rw [hx]; simp only [Value.slice.injEq, true_and]; exact ⟨by simpa using hm, by omega⟩
    exact wpList_append_own_none hgd s x 23 ho base 5 i0 1 Try.underlying23 hi v n xs hs hown hx' (h v w (by simpa using hown) ⟨rfl, rfl, rfl, Nat.le_refl _, fun _ _ _ => rfl⟩)
  | some ad =>
    refine wpList_append_own w hgd s x 23 ho base 5 i0 (.int .u8 0) 1 1 Try.underlying23 hi hz0 hz1 hz2 rfl (by decide) v n xs hs hown ad m cap (bv p) hx (by rw [bv_len]; omega) hp.news (bv_one _) (by unfold maxLen; omega) (by omega) hbase fun v' w' h1 h2 _ => ?_
    rw [hm] at h1
    exact h v' w' h1 h2

theorem row_shape {w : World} {base n : Nat} {v : Value} {xs : List Value} (h : w.ownsRow base 5 1 v n xs) : ∃ a m c, v = .slice a m c := by
  rcases h.2 with ⟨rfl, _⟩ | ⟨g, cap, cur, rfl, _⟩ <;> exact ⟨_, _, _, rfl⟩
theorem row_mono {w : World} {base base' n : Nat} {v : Value} {xs : List Value} (h : w.ownsRow base 5 1 v n xs) (hb : base' ≤ base) : w.ownsRow base' 5 1 v n xs := by
  obtain ⟨h1, h2⟩ := h
  refine ⟨h1, ?_⟩
  rcases h2 with h2 | ⟨g, cap, cur, e, hg, r⟩
  · exact .inl h2
  · exact .inr ⟨g, cap, cur, e, Nat.le_trans hb hg, r⟩
def texts (ps : List PtV) : List Int := (ps.map fun x => x.l).flatten
theorem texts_len (ps : List PtV) : (texts ps).length = lens ps := by
  unfold texts lens
  rw [List.length_flatten, List.map_map]
  rfl
theorem texts_succ {ps : List PtV} {i : Nat} (hi : i < ps.length) : texts (ps.take (i + 1)) = texts (ps.take i) ++ ps[i].l := by
  unfold texts
  rw [List.take_add_one, List.getElem?_eq_getElem hi]
  simp only [Option.toList, List.map_append, List.flatten_append, List.map_cons, List.map_nil, List.flatten_cons, List.flatten_nil, List.append_nil]
set_option maxHeartbeats 2000000 in
theorem joined_any (g q : Nat) (J : PjM) (w : World) (h : JIs w g q J) : Calls Try.prog 44 #[jP g] w fun r w' => ∃ v, r = .returned v ∧ w'.ownsRow w.heap.size 5 1 v (lens J.ps) (bv (texts J.ps)) ∧ Below w.heap.size w w' := by
  have H := Kp.mk h
  obtain ⟨⟨c0, c1, c2⟩, -⟩ := jcells h.b
  clear h
  obtain ⟨N, hN⟩ : ∃ N, N = J.ps.length := ⟨_, rfl⟩
  obtain ⟨A, hA⟩ : ∃ A, A = pa q J.ps.length := ⟨_, rfl⟩
  have HN := Kp.mk hN
  have HA := Kp.mk hA
  have HN32 : N ≤ 32 := by rw [hN]; exact H.out.n
  simp only [] at c2
  rw [← hA, ← hN] at c2
  clear hN hA
  go_enter Try.func44, Try.ntmps44
  go_wp2_with fail
  go_loopw [3, 11] (fun s c wr => ∃ i : Nat, i ≤ N ∧ c = .int .i64 i ∧ Kp (wr.ownsRow w.heap.size 5 1 s (lens (J.ps.take i)) (bv (texts (J.ps.take i)))) ∧ Kp (Below w.heap.size w wr)) (fun _ c _ => N - (intOf c).toNat)
  case atStart => exact ⟨0, by omega, rfl, ⟨World.ownsRow_nil _ _ _ _⟩, ⟨Below.refl _ _⟩⟩
  case round =>
    obtain ⟨i, hi, rfl, HO, HB⟩ := hrel
    by_cases hlt : i < N
    · have hlt' : (i : Int) < (N : Int) := by omega
      have hip : i < J.ps.length := by rw [← HN.out]; exact hlt
      have hAq : A = some ⟨q, 0, none⟩ := by rw [HA.out]; exact pa_some (by omega)
      subst hAq
      have HJ : Kp (JIs wr g q J) := ⟨H.out.keep HB.out⟩
      have HS : Kp (lens (J.ps.take (i + 1)) = lens (J.ps.take i) + J.ps[i].l.length) := ⟨lens_succ hip⟩
      have HT : Kp (bv (texts (J.ps.take (i + 1))) = bv (texts (J.ps.take i)) ++ bv J.ps[i].l) := ⟨by rw [texts_succ hip]; simp only [bv, List.map_append]⟩
      have HL1 : lens (J.ps.take i) ≤ 131072 := by
        have h1 := lens_le (ps := J.ps.take i) fun y hy => (H.out.t y (List.mem_of_mem_take hy)).2
        have h2 : (J.ps.take i).length ≤ 32 := by rw [List.length_take]; omega
        omega
      have HL2 : J.ps[i].l.length ≤ 4096 := (H.out.t _ (List.getElem_mem hip)).2
      have HH : Kp (HoldsB wr wr.heap.size J.ps[i].v J.ps[i].l) := ⟨(HJ.out.t _ (List.getElem_mem hip)).1⟩
      obtain ⟨a, n, cap, hv, -⟩ := HH.out.slice
      have HRG : Kp (wr.rangeAt q (i * 2) [.bool J.ps[i].there, .slice a n cap]) := ⟨by have := HJ.out.at hip; unfold ptc at this; rw [hv] at this; exact this⟩
      rw [hv] at HH
      generalize lens (J.ps.take i) = s0 at HS HL1 HO ⊢
      generalize J.ps[i].there = th at HRG ⊢
      generalize J.ps[i].l = p at HS HT HH HL2 ⊢
      generalize bv (texts (J.ps.take i)) = xs at HT HO ⊢
      clear hv hip
      go_wp2_with (first
        | (refine wpList_load_mid rfl 94 (.tmp 13) rfl q (i * 2) rfl [.bool th, .slice a n cap] _ HRG.out Try.underlying94 rfl info94s ?_)
        | (at_builtin; refine wpList_append_holds rfl _ _ rfl w.heap.size _ _ _ rfl (HO.out.alloc _) wr.heap.size _ p rfl (HH.out.alloc _) ?c0 ?c1 ?_))
      case c0 => omega
      case c1 => have := HB.out.size; simp; omega
      · intro v' w2 ho hg
        have HO2 := Kp.mk ho
        have HB2 : Kp (Below w.heap.size w w2) := ⟨below_row_grown (HB.out.alloc HB.out.size _) (by have := HB.out.size; simp; omega) (HO.out.alloc _) hg⟩
        clear ho hg
        go_wp2_with fail
        refine ⟨⟨i + 1, by omega, rfl, ⟨by rw [HS.out, HT.out]; exact HO2.out⟩, HB2⟩, ?_⟩
        simp only [intOf]
        omega
    · have hle : (N : Int) ≤ (i : Int) := by omega
      have hee : i = N := by omega
      have HE : Kp (J.ps.take i = J.ps) := ⟨by rw [List.take_of_length_le (by rw [hee, HN.out]; exact Nat.le_refl _)]⟩
      rw [HE.out] at HO
      go_wp2_with fail
      go_ret
      exact ⟨_, rfl, HO.out, HB.out⟩
end Go.Proofs.Ytlgcpfeaecpocaa
