/-
  Offer, where there is no floor: the world, and what it answers.
-/
import Derived.Test.YtfpmmbbbndobiaaRbH
namespace Go.Proofs.Ytfpmmbbbndobiaa
open Go.RowKit

theorem eqlK (a b : K3) (w : World) : (binOp .eql 47 (keyV a) (keyV b)).run Try.prog w = .ok (.bool (a.e == b.e && (a.s == b.s && a.m == b.m))) w := by
  cases h1 : a.e == b.e <;> cases h2 : a.s == b.s <;> cases h3 : a.m == b.m <;> (go_simp)
theorem K3.beq (a b : K3) : (a.e == b.e && (a.s == b.s && a.m == b.m)) = decide (a = b) := by
  obtain ⟨e, s, m⟩ := a
  obtain ⟨e', s', m'⟩ := b
  rw [Bool.eq_iff_iff]
  simp
theorem wp_alloc_rowO {P : Program} {o : Oper} {a : Act} {w : World} {K : Act → World → Prop} {Q : Exit → Act → World → Prop} (t : TypeId) (ho : o.op = .alloc t) (cs : Array Value) (n : Nat) (hi : (P.info? t).map (fun i => (i.zero, i.size)) = some (some (.agg cs), n))
    (h : K (a.put o.dst (.pointer (some ⟨w.heap.size, 0, none⟩))) (w.alloc (.cells cs t))) : o.wp P a w K Q := by
  unfold Oper.wp execOp
  simp only [ho, Sem.run_bind, alloc_row hi, Result.andThen_ok, Sem.run_pure]
  exact h
theorem info101z : (Try.prog.info? 101).map (fun i => (i.zero, i.size)) = some (some (.agg (owc ow0).toArray), 27) := by kernel_rfl
/-- A new offer. -/
def nwO (now : Int) (x : KV) : OW := ⟨true, now, x, 0, k0⟩
theorem builtO (now : Int) (x : KV) : Try.prog.built 101 [(0, .bool true), (1, .int .i64 now), (2, .agg (knc x).toArray)] = some (owc (nwO now x)).toArray := by kernel_rfl
/-- The world of Offer: the table, and what came in. -/
structure OF (T : TB) (t : Nat) (x : KV) (fl : K3) (A F : Nat) (w w' : World) : Prop where
  tt : Turn t T.obj w w'
  a : Blk w' A x.obj
  f : Blk w' F (.cells (kc fl).toArray 47)
  ne : t ≠ A ∧ t ≠ F
theorem OF.keep {T : TB} {t : Nat} {x : KV} {fl : K3} {A F : Nat} {w w' w2 : World} (h : OF T t x fl A F w w') (hb : Below w'.heap.size w' w2) : OF T t x fl A F w w2 := ⟨h.tt.more hb, h.a.keep hb, h.f.keep hb, h.ne⟩
theorem OF.drew {T : TB} {t : Nat} {x : KV} {fl : K3} {A F : Nat} {w w' : World} (h : OF T t x fl A F w w') : OF T t x fl A F w w'.drew := ⟨h.tt.drew, h.a.draw, h.f.draw, h.ne⟩
theorem OF.drewN {T : TB} {t : Nat} {x : KV} {fl : K3} {A F : Nat} {w w' : World} (h : OF T t x fl A F w w') (n : Nat) : OF T t x fl A F w (w'.drewN n) := ⟨h.tt.drewN n, h.a, h.f, h.ne⟩
theorem OF.turn {T T' : TB} {t : Nat} {x : KV} {fl : K3} {A F : Nat} {w w' w2 : World} (h : OF T t x fl A F w w') (k : Turn t T'.obj w' w2) : OF T' t x fl A F w w2 := ⟨h.tt.trans k, k.keep h.a h.ne.1.symm, k.keep h.f h.ne.2.symm, h.ne⟩
theorem OF.at {T : TB} {t : Nat} {x : KV} {fl : K3} {A F : Nat} {w w' : World} (h : OF T t x fl A F w w') : w'.cell? ⟨A, 0, none⟩ = some (.int .i64 x.d) ∧ w'.cell? ⟨A, 1, none⟩ = some (.int .u32 x.k.e) ∧ w'.cell? ⟨A, 2, none⟩ = some (.int .u32 x.k.s) ∧ w'.cell? ⟨A, 3, none⟩ = some (.int .i64 x.k.m) := ⟨h.a.cell 0, h.a.cell 1, h.a.cell 2, h.a.cell 3⟩
theorem off_cell {T : TB} {w : World} {t d n j : Nat} (h : Blk w t T.obj) (hd : d < 8) (hn : n < 8) {v : Value} (hv : (owc (T.off (d * 8 + n)))[j]? = some v) : w.cell? ⟨t, 3 + d * 216 + n * 27 + j, none⟩ = some v := off_range h hd hn j v hv
theorem off_key {T : TB} {w : World} {t d n : Nat} (h : Blk w t T.obj) (hd : d < 8) (hn : n < 8) : w.rangeAt t (3 + d * 216 + n * 27 + 3) (kc (T.off (d * 8 + n)).kn.k) := fun j v hv => by
  have hj : j < 3 := (List.getElem?_eq_some_iff.1 hv).1
  have := off_range h hd hn (3 + j) v (by
    match j, hj with
    | 0, _ => exact hv
    | 1, _ => exact hv
    | 2, _ => exact hv)
  rw [show 3 + d * 216 + n * 27 + 3 + j = 3 + d * 216 + n * 27 + (3 + j) by omega]
  exact this
theorem off_last {T : TB} {w : World} {t d n : Nat} (h : Blk w t T.obj) (hd : d < 8) (hn : n < 8) : w.rangeAt t (3 + d * 216 + n * 27 + 24) (kc (T.off (d * 8 + n)).last) := fun j v hv => by
  have hj : j < 3 := (List.getElem?_eq_some_iff.1 hv).1
  have := off_range h hd hn (24 + j) v (by
    match j, hj with
    | 0, _ => exact hv
    | 1, _ => exact hv
    | 2, _ => exact hv)
  rw [show 3 + d * 216 + n * 27 + 24 + j = 3 + d * 216 + n * 27 + (24 + j) by omega]
  exact this
def OfPost (a e : Int) (T' : TB) (t : Nat) (w : World) (r : Ending) (w' : World) : Prop := r = .returned (.tuple #[.int .i64 a, .int .i64 e]) ∧ Turn t T'.obj w w'
def ofOk (T : TB) (now f : Int) (x : KV) : Bool := (ndB x.d && x.d != T.self) && ((ndB f && f != T.self) && (krB x.k && tmB now))
set_option maxRecDepth 100000 in
theorem offer_nil (now f : Int) (x : KV) (fl : K3) (has : Bool) (w : World) : Calls Try.prog 14 #[.pointer none, .int .i64 now, .int .i64 f, .agg (knc x).toArray, keyV fl, .bool has] w fun r w' => r = .returned (.tuple #[.int .i64 0, .int .i64 2]) ∧ Below w.heap.size w w' := by
  have hA := fun (w : World) => box_row (t := 51) (cs := knc x) (info51s x) w
  have HB : Kp (∀ o o', Below w.heap.size w ((w.alloc o).alloc o')) := ⟨fun o o' => more (more (Below.refl _ _) _) _⟩
  obtain ⟨e, s, m⟩ := fl
  go_enter Try.func14, Try.ntmps14
  go_wp2_with (refine wpList_box_eq rfl 51 (.tmp 3) rfl _ rfl _ _ (hA _) ?_)
  go_ret2
  exact ⟨rfl, HB.out _ _⟩
set_option maxRecDepth 100000 in
set_option maxHeartbeats 3200000 in
theorem offer_arg (T : TB) (now f : Int) (x : KV) (fl : K3) (has : Bool) (t : Nat) (w : World) (h : Blk w t T.obj) (hno : ofOk T now f x = false) : Calls Try.prog 14 #[.pointer (some ⟨t, 0, none⟩), .int .i64 now, .int .i64 f, .agg (knc x).toArray, keyV fl, .bool has] w (OfPost 0 1 T t w) := by
  have hA := fun (w : World) => box_row (t := 51) (cs := knc x) (info51s x) w
  obtain ⟨A, hAe⟩ : ∃ A, A = w.heap.size := ⟨_, rfl⟩
  obtain ⟨F, hFe⟩ : ∃ F, F = A + 1 := ⟨_, rfl⟩
  obtain ⟨W, hW⟩ : ∃ W, W = (w.alloc x.obj).alloc (.cells (kc fl).toArray 47) := ⟨_, rfl⟩
  have H0 : Kp (OF T t x fl A F w W) := ⟨by
    have := h.lt
    rw [hW]
    exact ⟨((Turn.same h).alloc _).alloc _, (Blk.newAt _ hAe).old _, Blk.newAt _ (by rw [hFe, hAe]; simp), by omega, by omega⟩⟩
  have HE := Kp.mk (And.intro hAe hFe)
  have HW := Kp.mk hW
  obtain ⟨fe, fs, fm⟩ := fl
  have H1 := fun W h1 => other_any T t x.d W h1
  have H2 := fun W h1 => other_any T t f W h1
  have H3 := fun W => kright_any x.k W
  have H4 := fun W => time_any now W
  clear hW hAe hFe h
  cases b1 : (ndB x.d && x.d != T.self) with
  | false =>
    rw [b1] at H1
    clear b1 hno
    go_enter Try.func14, Try.ntmps14
    go_upto_region 1 with (refine wpList_box_eq rfl 51 (.tmp 3) rfl _ rfl _ _ (hA _) ?_)
    rw [← HW.out, ← HE.out.1, ← HE.out.2]
    clear hA HW
    obtain ⟨c0, c1, c2, c3⟩ := H0.out.at
    go_wp2_with fail
    refine (H1 _ H0.out.tt.blk).mono ?_
    rintro r w1 ⟨rfl, rfl⟩
    go_wp2_with fail
    go_ret2
    exact ⟨rfl, H0.out.tt⟩
  | true =>
    rw [b1] at H1
    cases b2 : (ndB f && f != T.self) with
    | false =>
      rw [b2] at H2
      clear b1 b2 hno
      go_enter Try.func14, Try.ntmps14
      go_upto_region 1 with (refine wpList_box_eq rfl 51 (.tmp 3) rfl _ rfl _ _ (hA _) ?_)
      rw [← HW.out, ← HE.out.1, ← HE.out.2]
      clear hA HW
      obtain ⟨c0, c1, c2, c3⟩ := H0.out.at
      go_wp2_with fail
      refine (H1 _ H0.out.tt.blk).mono ?_
      rintro r w1 ⟨rfl, rfl⟩
      go_wp2_with fail
      refine (H2 _ H0.out.tt.blk).mono ?_
      rintro r w1 ⟨rfl, rfl⟩
      go_wp2_with fail
      go_ret2
      exact ⟨rfl, H0.out.tt⟩
    | true =>
      rw [b2] at H2
      cases b3 : krB x.k with
      | false =>
        rw [b3] at H3
        clear b1 b2 b3 hno
        go_enter Try.func14, Try.ntmps14
        go_upto_region 1 with (refine wpList_box_eq rfl 51 (.tmp 3) rfl _ rfl _ _ (hA _) ?_)
        rw [← HW.out, ← HE.out.1, ← HE.out.2]
        clear hA HW
        obtain ⟨c0, c1, c2, c3⟩ := H0.out.at
        go_wp2_with fail
        refine (H1 _ H0.out.tt.blk).mono ?_
        rintro r w1 ⟨rfl, rfl⟩
        go_wp2_with fail
        refine (H2 _ H0.out.tt.blk).mono ?_
        rintro r w1 ⟨rfl, rfl⟩
        go_wp2_with fail
        refine (H3 _).mono ?_
        rintro r w1 ⟨rfl, hb⟩
        have K1 := Kp.mk (H0.out.tt.more hb)
        clear hb
        go_wp2_with fail
        go_ret2
        exact ⟨rfl, K1.out⟩
      | true =>
        rw [b3] at H3
        have b4 : tmB now = false := by simpa [ofOk, b1, b2, b3] using hno
        rw [b4] at H4
        clear b1 b2 b3 b4 hno
        go_enter Try.func14, Try.ntmps14
        go_upto_region 1 with (refine wpList_box_eq rfl 51 (.tmp 3) rfl _ rfl _ _ (hA _) ?_)
        rw [← HW.out, ← HE.out.1, ← HE.out.2]
        clear hA HW
        obtain ⟨c0, c1, c2, c3⟩ := H0.out.at
        go_wp2_with fail
        refine (H1 _ H0.out.tt.blk).mono ?_
        rintro r w1 ⟨rfl, rfl⟩
        go_wp2_with fail
        refine (H2 _ H0.out.tt.blk).mono ?_
        rintro r w1 ⟨rfl, rfl⟩
        go_wp2_with fail
        refine (H3 _).mono ?_
        rintro r w1 ⟨rfl, hb⟩
        have K1 := Kp.mk (H0.out.tt.more hb)
        clear hb
        go_wp2_with fail
        refine (H4 _).mono ?_
        rintro r w1 ⟨rfl, rfl⟩
        go_wp2_with fail
        go_ret2
        exact ⟨rfl, K1.out⟩
end Go.Proofs.Ytfpmmbbbndobiaa
