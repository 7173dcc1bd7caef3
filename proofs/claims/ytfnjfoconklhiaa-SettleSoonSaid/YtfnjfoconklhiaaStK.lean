/-
  SettleUrgent.
-/
import Derived.Test.YtfnjfoconklhiaaStJ
namespace Go.Proofs.Ytfnjfoconklhiaa
open Go.RowKit

theorem those_one {p : PS} {q : NW → Bool} {d : Nat} (hd : d < 8) (h : ∀ i, i < 8 → q (p.all i) = decide (i = d)) : those p q 8 = [d] := by
  unfold those
  rw [List.filter_congr (q := fun i => decide (i = d)) (fun i hi => h i (by simpa using hi))]
  match d, hd with
  | 0, _ | 1, _ | 2, _ | 3, _ | 4, _ | 5, _ | 6, _ | 7, _ => rfl
theorem those_none {p : PS} {q : NW → Bool} (h : ∀ i, i < 8 → q (p.all i) = false) : those p q 8 = [] := by
  unfold those
  rw [List.filter_congr (q := fun _ => false) (fun i hi => h i (by simpa using hi))]
  rfl
theorem put_tell (p : PS) (d : Nat) (n : NW) : (p.put d n).tell [d] = p.put d n.tell := by
  unfold PS.tell PS.put
  simp only [PS.mk.injEq, true_and, List.mem_singleton]
  funext i
  split <;> rfl
theorem put_note {p : PS} {now e s m : Int} {d : Nat} {u : Bool} (n : NW) (h : noteB now d e s m = true) : (p.put d n).note now d e s m u = p.put d (n.note now e s m u) := by
  unfold PS.note
  rw [if_pos h]
  simp only [Int.toNat_natCast, PS.put_put, PS.put_all]
def pa (S : Int) : PS := ⟨1000, S, true, 0, fun _ => nw0⟩
theorem pa_is (S : Int) : (ps0 1000 S).due 0 = pa S := by
  have h : those (ps0 1000 S) (fun n => n.waits) 8 = [] := those_none (fun _ _ => rfl)
  unfold PS.due
  rw [if_pos (by decide), if_pos (show (ps0 1000 S).full 0 = true from rfl)]
  show ({ (ps0 1000 S).tell (those (ps0 1000 S) (fun n => n.waits) 8) with ever := true, told := 0 } : PS) = pa S
  rw [h, PS.tell_nil]
  rfl
def na (e s m : Int) (wt u : Bool) : NW := ⟨true, e, s, m, 1, wt, u⟩
theorem na_note (e s m now : Int) (wt u u' : Bool) : (na e s m wt u).note now e s m u' = na e s m true (u || u') := by
  unfold na NW.note nwB
  simp
theorem nw0_note (e s m : Int) : nw0.note 1 e s m false = na e s m true false := by simp [na, NW.note, nw0]
theorem ripe_at {S now e s m : Int} {wt u : Bool} (i d : Nat) (h0 : 0 ≤ now) : ((pa S).put d (na e s m wt u)).ripe now (((pa S).put d (na e s m wt u)).all i) = (decide (i = d) && (wt && (u || decide (1 + S ≤ now)))) := by
  by_cases h : i = d
  · subst h
    rw [PS.put_all]
    unfold PS.ripe setT na pa PS.put
    cases u <;> simp [h0]
  · unfold PS.put PS.ripe
    simp [h, pa, nw0]
theorem due_one {S now e s m : Int} {u : Bool} {d : Nat} (hd : d < 8) (h0 : 0 ≤ now ∧ now ≤ 256) (h : u = true ∨ 1 + S ≤ now) : ((pa S).put d (na e s m true u)).dueL now = [d] ∧ ((pa S).put d (na e s m true u)).due now = (pa S).put d (na e s m false false) := by
  have ht : tmB now = true := by simp [tmB]; omega
  have hf : ((pa S).put d (na e s m true u)).full now = false := by simp [PS.full, PS.put, pa]; omega
  have hl : those ((pa S).put d (na e s m true u)) (((pa S).put d (na e s m true u)).ripe now) 8 = [d] := those_one hd (fun i _ => by
    rw [ripe_at i d h0.1]
    rcases h with h | h <;> simp [h])
  refine ⟨?_, ?_⟩
  · unfold PS.dueL
    rw [if_pos ⟨ht, hf⟩, hl]
  · unfold PS.due
    rw [if_pos ht, if_neg (by rw [hf]; simp), hl, put_tell]
    rfl
theorem due_none {S now e s m : Int} {d : Nat} (h0 : 0 ≤ now ∧ now ≤ 256) (h : now < 1 + S) : ((pa S).put d (na e s m true false)).dueL now = [] ∧ ((pa S).put d (na e s m true false)).due now = (pa S).put d (na e s m true false) := by
  have ht : tmB now = true := by simp [tmB]; omega
  have hf : ((pa S).put d (na e s m true false)).full now = false := by simp [PS.full, PS.put, pa]; omega
  have hl : those ((pa S).put d (na e s m true false)) (((pa S).put d (na e s m true false)).ripe now) 8 = [] := those_none (fun i _ => by
    rw [ripe_at i d h0.1]
    have h' : ¬ 1 + S ≤ now := by omega
    simp [h'])
  refine ⟨?_, ?_⟩
  · unfold PS.dueL
    rw [if_pos ⟨ht, hf⟩, hl]
  · unfold PS.due
    rw [if_pos ht, if_neg (by rw [hf]; simp), hl, PS.tell_nil]
theorem waits_none (S e s m : Int) (d : Nat) : those ((pa S).put d (na e s m false false)) (fun n => n.waits) 8 = [] := those_none (fun i _ => by
  unfold PS.put
  simp only
  split <;> rfl)
theorem settle_in (x : Int) : ∃ S, wrap64 (1 + wrap64 ((IntKind.u64.wrap x).tmod 100)) = S ∧ 1 ≤ S ∧ S ≤ 100 := by
  refine ⟨_, rfl, ?_⟩
  have h : 0 ≤ IntKind.u64.wrap x := by simp [IntKind.wrap, IntKind.bits, IntKind.signed]; omega
  rw [Int.tmod_eq_emod_of_nonneg h]
  unfold wrap64
  omega
def UB (w : World) (S e s m : Int) : World := (w.alloc (.cells #[.int .i64 1000, .int .i64 S] 23)).alloc (.cells #[.int .u32 e, .int .u32 s, .int .i64 m] 35)
/-- The two boxes of what came in. -/
theorem ub_is (w : World) (S e s m : Int) : Blk (UB w S e s m) w.heap.size (.cells #[.int .i64 1000, .int .i64 S] 23) ∧ Blk (UB w S e s m) (w.heap.size + 1) (.cells #[.int .u32 e, .int .u32 s, .int .i64 m] 35) ∧ Below w.heap.size w (UB w S e s m) :=
  ⟨(Blk.new _ _).old _, Blk.newAt _ (by simp), more (more (Below.refl _ _) _) _⟩
set_option maxRecDepth 100000 in
set_option maxHeartbeats 3200000 in
theorem settleUrgent_no (x0_0 x0_1 e s m d wt : Int) (w : World) (hb : krB e s m = false ∨ d < 0 ∨ 8 ≤ d) : Calls Try.prog 5 #[.agg #[.int .i64 x0_0, .int .i64 x0_1], keyV e s m, .int .i64 d, .int .u8 wt] w fun r w' => r = .returned (.bool true) ∧ Below w.heap.size w w' := by
  obtain ⟨S, hS, hS1, hS2⟩ := settle_in x0_1
  have HN := fun w1 => new_yes 1000 S w1 (by simp [rtB]; omega)
  have HR := fun w1 => rkright_any e s m w1
  have U := Kp.mk (ub_is w S e s m)
  have HB := Kp.mk hb
  have hcell : (UB w S e s m).cell? ⟨w.heap.size, 0, none⟩ = some (.int .i64 1000) ∧ (UB w S e s m).cell? ⟨w.heap.size, 1, none⟩ = some (.int .i64 S) := ⟨U.out.1.cell 0, U.out.1.cell 1⟩
  unfold UB at U
  clear hb hS1 hS2 hcell
  go_enter Try.func5, Try.ntmps5
  go_wp2_with fail
  rw [hS]
  clear hS
  refine (HN _).mono ?_
  rintro r w1 ⟨t, rfl, h1, h2, h3⟩
  have K : Kp (Below w.heap.size w w1 ∧ Blk w1 (w.heap.size + 1) (.cells #[.int .u32 e, .int .u32 s, .int .i64 m] 35)) := ⟨U.out.2.2.trans (h3.mono (U.out.2.2).size), U.out.2.1.keep h3⟩
  clear h1 h2 h3 HN U
  go_wp2_with fail
  refine (awake_any _).mono ?_
  rintro r w2 ⟨rfl, hb⟩
  have K2 : Kp (Below w.heap.size w w2 ∧ Blk w2 (w.heap.size + 1) (.cells #[.int .u32 e, .int .u32 s, .int .i64 m] 35)) := ⟨K.out.1.trans (hb.mono K.out.1.size), K.out.2.keep hb⟩
  clear hb K
  obtain ⟨k0, k1, k2, -⟩ := K2.out.2.three
  go_wp2_with fail
  refine (HR _).mono ?_
  rintro r w3 ⟨rfl, hb⟩
  have K3 := Kp.mk (K2.out.1.trans (hb.mono K2.out.1.size))
  clear hb K2 k0 k1 k2 HR
  have HA := fun w1 => awake_any w1
  rcases HB.out with hk | hk | hk
  · rw [hk]
    clear hk
    go_wp2_with fail
    refine (HA _).mono ?_
    rintro r w4 ⟨rfl, hb⟩
    have K4 := Kp.mk (K3.out.trans (hb.mono K3.out.size))
    clear hb K3
    go_wp2_with fail
    go_ret
    exact ⟨rfl, K4.out⟩
  all_goals
    cases krB e s m
    all_goals
      go_wp2_with fail
      refine (HA _).mono ?_
      rintro r w4 ⟨rfl, hb⟩
      have K4 := Kp.mk (K3.out.trans (hb.mono K3.out.size))
      clear hb K3
      go_wp2_with fail
      go_ret
      exact ⟨rfl, K4.out⟩
end Go.Proofs.Ytfnjfoconklhiaa
