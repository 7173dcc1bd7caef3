/-
  Lookup, New, copied of what has no path.
-/
import Derived.Test.YtfpmmbbbndobiaaRbD
namespace Go.Proofs.Ytfpmmbbbndobiaa
open Go.RowKit

/-- What a table is: by numbers of neighbours. -/
def TB.Ways (T : TB) : Prop := ∀ d, d < 8 → 0 ≤ T.way d ∧ T.way d < 8
def lkO (T : TB) (d : Nat) : OW := T.off (d * 8 + (T.way d).toNat)
def lkB (T : TB) (d : Int) : Bool := ndB d && (lkO T d.toNat).stands
def lkN (T : TB) (d : Int) : Int := if lkB T d = true then T.way d.toNat else 0
set_option maxHeartbeats 1600000 in
theorem lookup_any (T : TB) (t : Nat) (d : Int) (w : World) (h : Blk w t T.obj) (hw : T.Ways) : Calls Try.prog 25 #[.pointer (some ⟨t, 0, none⟩), .int .i64 d] w fun r w' => r = .returned (.tuple #[.int .i64 (lkN T d), .bool (lkB T d)]) ∧ w = w' := by
  have HN := fun w1 => node_any d w1
  cases hn : ndB d with
  | false =>
    have HX : Kp (lkB T d = false ∧ lkN T d = 0) := ⟨by simp [lkB, hn], by simp [lkN, lkB, hn]⟩
    rw [hn] at HN
    clear hn h hw
    go_enter Try.func25, Try.ntmps25
    go_wp2_with fail
    refine (HN _).mono ?_
    rintro r w1 ⟨rfl, rfl⟩
    go_wp2_with fail
    go_ret2
    exact ⟨by rw [HX.out.1, HX.out.2]; rfl, rfl⟩
  | true =>
    have hd : 0 ≤ d ∧ d < 8 := by simpa [ndB] using hn
    obtain ⟨k, rfl⟩ : ∃ k : Nat, d = k := ⟨d.toNat, by omega⟩
    have hk : k < 8 := by omega
    have hk' : (k : Int) < 8 := by omega
    obtain ⟨n, hn2⟩ : ∃ n : Nat, T.way k = n := ⟨(T.way k).toNat, by have := hw k hk; omega⟩
    have hn8 : n < 8 := by have := hw k hk; omega
    have hn8' : (n : Int) < 8 := by omega
    have HX : Kp (lkB T k = (T.off (k * 8 + n)).stands ∧ lkN T k = if (T.off (k * 8 + n)).stands = true then (n : Int) else 0) := ⟨by simp [lkB, hn, lkO, hn2], by simp [lkN, lkB, hn, lkO, hn2]⟩
    have c0 : w.cell? ⟨t, 1731 + k, none⟩ = some (.int .i64 n) := (h.cell _).trans (by rw [List.getElem?_toArray, tc_way T hk, hn2])
    have c1 : w.cell? ⟨t, 3 + k * 216 + n * 27, none⟩ = some (.bool (T.off (k * 8 + n)).stands) := off_range h hk hn8 0 _ rfl
    rw [hn] at HN
    clear hn h hw hn2
    cases hs : (T.off (k * 8 + n)).stands with
    | false =>
      rw [hs] at c1 HX
      clear hs
      go_enter Try.func25, Try.ntmps25
      go_wp2_with fail
      refine (HN _).mono ?_
      rintro r w1 ⟨rfl, rfl⟩
      go_wp2_with fail
      go_ret2
      exact ⟨by rw [HX.out.1, HX.out.2]; rfl, rfl⟩
    | true =>
      rw [hs] at c1 HX
      clear hs
      go_enter Try.func25, Try.ntmps25
      go_wp2_with fail
      refine (HN _).mono ?_
      rintro r w1 ⟨rfl, rfl⟩
      go_wp2_with fail
      go_ret2
      exact ⟨by rw [HX.out.1, HX.out.2]; rfl, rfl⟩
def k0 : K3 := ⟨0, 0, 0⟩
def kn0 (d : Int) (k : K3) : KV := ⟨d, k, fun _ => 0, none, 0, 0⟩
def ow0 : OW := ⟨false, 0, kn0 0 k0, 0, k0⟩
def tb0 (s h l : Int) : TB := ⟨s, h, l, fun _ => ow0, fun _ => 0⟩
theorem tb0_ways (s h l : Int) : (tb0 s h l).Ways := fun _ _ => ⟨by simp [tb0], by simp [tb0]⟩
theorem zeq105 (s h l : Int) : ((Try.zeroCells105.setIfInBounds 0 (Value.int .i64 s)).setIfInBounds 1 (Value.int .i64 h)).setIfInBounds 2 (Value.int .i64 l) = (tc (tb0 s h l)).toArray := by kernel_rfl
theorem built105 (s h l : Int) : Try.prog.built 105 [(0, .int .i64 s), (1, .agg #[.int .i64 h, .int .i64 l])] = some (tc (tb0 s h l)).toArray := by kernel_rfl
theorem wpList_build_eq {P : Program} {w : World} {ops : Array Oper} {rest : List Oper} {o : Oper} {a : Act} {Q : Exit → Act → World → Prop} (hg : o.guard = none) (t : TypeId) (parts : Array (Nat × Operand)) (ho : o.op = .build t parts)
    (ps : Array (Nat × Value)) (hps : (parts.map fun (i, x) => (i, a.eval x)) = ps) (cells : Array Value) (hc : P.built t ps.toList = some cells) (h : wpList P ops Q rest (a.put o.dst (.agg cells)) w) : wpList P ops Q (o :: rest) a w := by
  subst hps
  refine wpList_plain hg fun _ hK => ?_
  unfold Oper.wp execOp
  simp only [ho, Sem.run_bind, run_build w t _ cells hc, Result.andThen_ok]
  exact hK _ _ h
def NewPost (s h l : Int) (w : World) (r : Ending) (w' : World) : Prop :=
  ∃ t, r = .returned (.tuple #[.pointer (some ⟨t, 0, none⟩), .int .i64 0]) ∧ w.heap.size ≤ t ∧ Blk w' t (tb0 s h l).obj ∧ Below w.heap.size w w'
theorem new_no (s h l : Int) (w : World) (hno : ndB s = false ∨ ndB s = true ∧ rtB h l = false) : Calls Try.prog 8 #[.int .i64 s, .agg #[.int .i64 h, .int .i64 l]] w fun r w' => r = .returned (.tuple #[.pointer none, .int .i64 1]) ∧ Below w.heap.size w w' := by
  have HN := fun w1 => node_any s w1
  have HR := fun w1 => right_any h l w1
  have HB : Kp (Below w.heap.size w (w.alloc (.cells #[.int .i64 h, .int .i64 l] 29)) ∧ Blk (w.alloc (.cells #[.int .i64 h, .int .i64 l] 29)) w.heap.size (.cells #[.int .i64 h, .int .i64 l] 29)) := ⟨more (Below.refl _ _) _, Blk.new _ _⟩
  rcases hno with hn | ⟨hn, hr⟩
  · rw [hn] at HN
    clear hn
    go_enter Try.func8, Try.ntmps8
    go_wp2_with fail
    refine (HN _).mono ?_
    rintro r w1 ⟨rfl, rfl⟩
    go_wp2_with fail
    go_ret2
    exact ⟨rfl, HB.out.1⟩
  · rw [hn] at HN
    rw [hr] at HR
    clear hn hr
    go_enter Try.func8, Try.ntmps8
    go_wp2_with fail
    refine (HN _).mono ?_
    rintro r w1 ⟨rfl, rfl⟩
    go_wp2_with fail
    refine (HR _).mono ?_
    rintro r w2 ⟨rfl, hb⟩
    have K := Kp.mk (HB.out.1.trans (hb.mono HB.out.1.size))
    clear hb
    go_wp2_with fail
    go_ret2
    exact ⟨rfl, K.out⟩
theorem new_yes (s h l : Int) (w : World) (hs : ndB s = true) (hr : rtB h l = true) : Calls Try.prog 8 #[.int .i64 s, .agg #[.int .i64 h, .int .i64 l]] w (NewPost s h l w) := by
  have HN := fun w1 => node_any s w1
  have HR := fun w1 => right_any h l w1
  rw [hs] at HN
  rw [hr] at HR
  have HB : Kp (Below w.heap.size w (w.alloc (.cells #[.int .i64 h, .int .i64 l] 29)) ∧ Blk (w.alloc (.cells #[.int .i64 h, .int .i64 l] 29)) w.heap.size (.cells #[.int .i64 h, .int .i64 l] 29)) := ⟨more (Below.refl _ _) _, Blk.new _ _⟩
  have q0 : (w.alloc (.cells #[.int .i64 h, .int .i64 l] 29)).cell? ⟨w.heap.size, 0, none⟩ = some (.int .i64 h) := HB.out.2.cell 0
  clear hs hr q0
  go_enter Try.func8, Try.ntmps8
  go_wp2_with fail
  refine (HN _).mono ?_
  rintro r w1 ⟨rfl, rfl⟩
  go_wp2_with fail
  refine (HR _).mono ?_
  rintro r w2 ⟨rfl, hb⟩
  have K := Kp.mk (And.intro (HB.out.1.trans (hb.mono HB.out.1.size)) (HB.out.2.keep hb))
  obtain ⟨q0, q1, -⟩ := K.out.2.two
  clear hb HN HR
  go_wp2_with fail
  go_ret2
  exact ⟨w2.heap.size, rfl, K.out.1.size, by rw [zeq105]; exact Blk.new _ _, K.out.1.trans ((more (Below.refl _ _) _).mono K.out.1.size)⟩
set_option maxRecDepth 100000 in
theorem clone_nil (w : World) : Calls Try.prog 60 #[.slice none 0 0] w fun r w' => r = .returned (.slice none 0 0) ∧ w = w' := by
  have hql : ∀ w, (binOp .eql 49 (.slice none 0 0) (.slice none 0 0)).run Try.prog w = .ok (.bool true) w := fun w => rfl
  go_enter Try.func60, Try.ntmps60
  go_wp2_with fail
  go_ret
  exact ⟨rfl, rfl⟩
theorem info51z : (Try.prog.info? 51).map (fun i => (i.zero, i.size)) = some (some (.agg (knc (kn0 0 k0)).toArray), 21) := by kernel_rfl
theorem ret44 {tmps : Array Value} {w : World} {x : KV} {g : Nat} (h2 : tmps.getD 2 undef = .pointer (some ⟨g, 0, none⟩)) (hg : Blk w g x.obj) : (results Try.f44 tmps).run Try.prog w = .ok (.agg (knc x).toArray) w :=
  results_cell_row (P := Try.prog) Try.results44 tmps w g 51 (knc x).toArray (0, 0) _ h2 hg Try.underlying51 rfl (info51s x)
set_option maxHeartbeats 1600000 in
theorem copied_nil (x : KV) (w : World) (hp : x.pa = none ∧ x.pn = 0 ∧ x.pc = 0) : Calls Try.prog 44 #[.agg (knc x).toArray] w fun r w' => r = .returned (.agg (knc x).toArray) ∧ Below w.heap.size w w' := by
  have hA := fun (w : World) => box_row (t := 51) (cs := knc x) (info51s x) w
  obtain ⟨A, hAe⟩ : ∃ A, A = w.heap.size := ⟨_, rfl⟩
  obtain ⟨R, hRe⟩ : ∃ R, R = A + 1 := ⟨_, rfl⟩
  obtain ⟨Z, hZ⟩ : ∃ Z, Z = kn0 0 k0 := ⟨_, rfl⟩
  obtain ⟨W, hW⟩ : ∃ W, W = (w.alloc x.obj).alloc Z.obj := ⟨_, rfl⟩
  have H : Kp (Blk W A x.obj ∧ Blk W R Z.obj ∧ Below A w W) := ⟨by rw [hW]; exact ⟨(Blk.newAt _ hAe).old _, Blk.newAt _ (by rw [hRe, hAe]; simp), by rw [hAe]; exact more (more (Below.refl _ _) _) _⟩⟩
  have HINF : Kp ((Try.prog.info? 51).map (fun i => (i.zero, i.size)) = some (some (.agg (knc Z).toArray), 21)) := ⟨by rw [hZ]; exact info51z⟩
  have HE := Kp.mk (And.intro hAe hRe)
  have HW := Kp.mk hW
  have HAR : Kp (A ≠ R) := ⟨by omega⟩
  have HSET : Kp ((knc x).toArray.setIfInBounds 20 (.slice none 0 0) = (knc x).toArray) := ⟨by
    obtain ⟨d, k, el, pa, pn, pc⟩ := x
    obtain ⟨h1, h2, h3⟩ := hp
    simp only at h1 h2 h3
    subst h1 h2 h3
    rfl⟩
  have c20 : W.cell? ⟨A, 20, none⟩ = some (.slice none 0 0) := (H.out.1.cell 20).trans (show (knc x).toArray[20]? = some (.slice none 0 0) by
    have e : (knc x).toArray[20]? = some (.slice x.pa x.pn x.pc) := rfl
    rw [e, hp.1, hp.2.1, hp.2.2])
  have f20 : W.frozen? ⟨A, 20, none⟩ = false := H.out.1.frozen 20
  clear hW hAe hRe hZ hp
  go_enter Try.func44, Try.ntmps44
  go_upto_region 1 with (first
    | (refine wpList_box_eq rfl 51 (.tmp 0) rfl _ rfl _ _ (hA _) ?_)
    | (refine wpList_alloc_row rfl 51 rfl (knc Z).toArray 21 HINF.out ?_))
  rw [← HW.out, show (w.alloc x.obj).heap.size = R by rw [HE.out.2, HE.out.1]; simp, ← HE.out.1]
  clear hA
  go_wp2_with fail
  refine (clone_nil _).mono ?_
  rintro r w1 ⟨rfl, rfl⟩
  go_upto_region 2 with fail
  have H2 : Kp (Blk (W.setCell ⟨A, 20, none⟩ (.slice none 0 0)) A x.obj ∧ Blk (W.setCell ⟨A, 20, none⟩ (.slice none 0 0)) R Z.obj ∧ Below A w (W.setCell ⟨A, 20, none⟩ (.slice none 0 0))) := ⟨by have := H.out.1.set 20 (.slice none 0 0); rw [HSET.out] at this; exact this, H.out.2.1.setOther (p := ⟨A, 20, none⟩) HAR.out _, H.out.2.2.setCell (p := ⟨A, 20, none⟩) (Nat.le_refl _) _⟩
  clear c20 f20 H
  revert H2
  generalize World.setCell _ _ _ = W2
  intro H2
  go_wp2_with (first
    | (refine wpList_load_row rfl 51 (.tmp 1) rfl A rfl 51 (knc x).toArray (0, 0) _ H2.out.1 Try.underlying51 rfl (info51s _) ?_)
    | (refine wpList_store_row rfl 51 (.tmp 2) (.tmp 7) rfl R (knc x).toArray rfl rfl 51 _ H2.out.2.1 (info51s _) rfl (all_oneCell_toArray (knc_one _)) ?_
       have H3 : Kp (Blk (W2.setRow R (knc x).toArray) R x.obj ∧ Below A w (W2.setRow R (knc x).toArray)) := ⟨Blk.setRow H2.out.2.1 _, below_setRow H2.out.2.2 (by have := HE.out.2; omega) _⟩
       revert H3
       generalize W2.setRow R (knc x).toArray = W3
       intro H3))
  exact bodyPost_ret (v := .agg (knc x).toArray) (ret44 rfl H3.out.1) rfl ⟨rfl, by rw [← HE.out.1]; exact H3.out.2⟩
end Go.Proofs.Ytfpmmbbbndobiaa
