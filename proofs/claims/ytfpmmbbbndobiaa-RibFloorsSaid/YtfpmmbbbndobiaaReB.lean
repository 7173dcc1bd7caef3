/-
  RibApart: the walk.
-/
import Derived.Test.YtfpmmbbbndobiaaReA
import Derived.Deep.Cut
namespace Go.Proofs.Ytfpmmbbbndobiaa
open Go.RowKit

abbrev OpR.obj (o : OpR) : Obj := .cells (ocR o).toArray 46
def zO : OpR := ⟨0, 0, 0, kn0 0 k0, k0, false⟩
theorem info46z : (Try.prog.info? 46).map (fun i => (i.zero, i.size)) = some (some (.agg (ocR zO).toArray), 28) := by kernel_rfl
theorem info46s (o : OpR) : (Try.prog.info? 46).map (·.size) = some (ocR o).toArray.size := by kernel_rfl
theorem ocR_one (o : OpR) : ∀ u ∈ ocR o, u.oneCell' = true := by
  intro u hu
  simp only [ocR, List.mem_cons, List.mem_append] at hu
  rcases hu with h | h | h | h | h | h
  · subst h; rfl
  · subst h; rfl
  · subst h; rfl
  · exact knc_one _ _ h
  · exact kc_one _ _ (by simpa [kc] using h)
  · rcases h with h | h
    · subst h; rfl
    · cases h
theorem ocR_at {w : World} {O : Nat} {o : OpR} (h : Blk w O o.obj) : w.cell? ⟨O, 0, none⟩ = some (.int .i64 o.kind) ∧ w.cell? ⟨O, 1, none⟩ = some (.int .i64 o.now) ∧ w.cell? ⟨O, 2, none⟩ = some (.int .i64 o.from_) ∧ w.cell? ⟨O, 23, none⟩ = some (.slice o.x.pa o.x.pn o.x.pc) := ⟨h.cell 0, h.cell 1, h.cell 2, h.cell 23⟩
def o2 (o : OpR) : OpR := { o with x := { o.x with d := 2 } }
theorem ocR_set (o : OpR) : (ocR o).toArray.setIfInBounds 3 (.int .i64 2) = (ocR (o2 o)).toArray := by
  obtain ⟨a, b, c, x, fl, h⟩ := o
  rfl
theorem now_in (now x : Int) (h0 : 0 ≤ now ∧ now ≤ 600) : ∃ N, wrap64 (now + wrap64 ((IntKind.u64.wrap x).tmod 9)) = N ∧ 0 ≤ N ∧ N ≤ now + 8 := by
  refine ⟨_, rfl, ?_⟩
  have h : 0 ≤ IntKind.u64.wrap x := by simp [IntKind.wrap, IntKind.bits, IntKind.signed]; omega
  rw [Int.tmod_eq_emod_of_nonneg h]
  unfold wrap64
  omega
/-- The world of a round: the table, the law's key, and the step. -/
structure AP (W0 : World) (t B5 : Nat) (k : K3) (T : TB) (w : World) : Prop where
  own : OwnP W0 t T w
  kb : Blk w B5 (.cells (kc k).toArray 40)
theorem AP.more {W0 w w' : World} {t B5 : Nat} {k : K3} {T : TB} (h : AP W0 t B5 k T w) (hb : Below w.heap.size w w') : AP W0 t B5 k T w' := ⟨h.own.more hb, h.kb.keep hb⟩
def HB2 (w : World) (h l : Int) (k : K3) : World := (w.alloc (.cells #[.int .i64 h, .int .i64 l] 23)).alloc (.cells (kc k).toArray 40)
theorem hb2_is (w : World) (h l : Int) (k : K3) : Blk (HB2 w h l k) w.heap.size (.cells #[.int .i64 h, .int .i64 l] 23) ∧ Blk (HB2 w h l k) (w.heap.size + 1) (.cells (kc k).toArray 40) ∧ Below w.heap.size w (HB2 w h l k) :=
  ⟨(Blk.new _ _).old _, Blk.newAt _ (by simp), more (more (Below.refl _ _) _) _⟩
set_option maxRecDepth 100000 in
set_option maxHeartbeats 3200000 in
theorem ribApart_no (h l : Int) (k : K3) (f : Int) (ad : Option Addr) (len cap : Nat) (w : World) (hb : rtB h 1048576 = false ∨ rtB h 1048576 = true ∧ (krB k = false ∨ krB k = true ∧ (f < 1 ∨ ¬ f < 1 ∧ 8 ≤ f))) : Calls Try.prog 5 #[.agg #[.int .i64 h, .int .i64 l], keyV k, .int .i64 f, .slice ad len cap] w fun r w' => r = .returned (.bool true) ∧ Below w.heap.size w w' := by
  have HR := fun w1 => rkright_any k w1
  have U := Kp.mk (hb2_is w h l k)
  unfold HB2 at U
  rcases hb with hr | ⟨hr, hb⟩
  · have HN := fun w1 => new_no 0 h 1048576 w1 (.inr ⟨by decide, hr⟩)
    clear hr
    obtain ⟨e, s, m⟩ := k
    go_enter Try.func5, Try.ntmps5
    go_wp2_with fail
    refine (HN _).mono ?_
    rintro r w1 ⟨rfl, h1⟩
    have K := Kp.mk (U.out.2.2.trans (h1.mono U.out.2.2.size))
    clear h1 HN U
    go_wp2_with fail
    refine (awake_any _).mono ?_
    rintro r w2 ⟨rfl, h1⟩
    have K2 := Kp.mk (K.out.trans (h1.mono K.out.size))
    clear h1 K
    go_wp2_with fail
    refine (awake_any _).mono ?_
    rintro r w3 ⟨rfl, h1⟩
    have K3 := Kp.mk (K2.out.trans (h1.mono K2.out.size))
    clear h1 K2
    go_wp2_with fail
    go_ret
    exact ⟨rfl, K3.out⟩
  · have HN := fun w1 => new_yes 0 h 1048576 w1 (by decide) hr
    rcases hb with hk | ⟨hk, hf | ⟨hf, hf8⟩⟩
    all_goals
      rw [hk] at HR
      clear hr hk
      obtain ⟨e, s, m⟩ := k
      go_enter Try.func5, Try.ntmps5
      go_wp2_with fail
      refine (HN _).mono ?_
      rintro r w1 ⟨t, rfl, h1, h2, h3⟩
      have K : Kp (Below w.heap.size w w1 ∧ Blk w1 (w.heap.size + 1) (.cells #[.int .u32 e, .int .u32 s, .int .i64 m] 40)) := ⟨U.out.2.2.trans (h3.mono U.out.2.2.size), U.out.2.1.keep h3⟩
      clear h1 h2 h3 HN U
      go_wp2_with fail
      refine (awake_any _).mono ?_
      rintro r w2 ⟨rfl, h1⟩
      have K2 : Kp (Below w.heap.size w w2 ∧ Blk w2 (w.heap.size + 1) (.cells #[.int .u32 e, .int .u32 s, .int .i64 m] 40)) := ⟨K.out.1.trans (h1.mono K.out.1.size), K.out.2.keep h1⟩
      clear h1 K
      obtain ⟨k0, k1, k2, -⟩ := K2.out.2.three
      go_wp2_with fail
      refine (HR _).mono ?_
      rintro r w3 ⟨rfl, h1⟩
      have K3 := Kp.mk (K2.out.1.trans (h1.mono K2.out.1.size))
      clear h1 K2 k0 k1 k2 HR
      go_wp2_with fail
      refine (awake_any _).mono ?_
      rintro r w4 ⟨rfl, h1⟩
      have K4 := Kp.mk (K3.out.trans (h1.mono K3.out.size))
      clear h1 K3
      go_wp2_with fail
      go_ret
      exact ⟨rfl, K4.out⟩
end Go.Proofs.Ytfpmmbbbndobiaa
