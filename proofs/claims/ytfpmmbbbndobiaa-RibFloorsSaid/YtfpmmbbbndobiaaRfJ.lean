/-
  No route is worse than its floor: the calls, over a table and floors in new memory.
-/
import Derived.Test.YtfpmmbbbndobiaaRfH
import Derived.Test.YtfpmmbbbndobiaaRfF
import Derived.Test.YtfpmmbbbndobiaaRfG
namespace Go.Proofs.Ytfpmmbbbndobiaa
open Go.RowKit

theorem HoldsS.grownM {w w' : World} {v : Value} {n : Nat} {l : List Int} {M m : Nat} {F : Int → Option K3} (h : HoldsS w v n l) (hM : MapIs w M m F) (hg : w.grownBy w' (some M)) : HoldsS w' v n l := by
  obtain ⟨a, cap, h1, h2, h3, h4, h5⟩ := h
  refine ⟨a, cap, h1, h2, h3, h4, fun h0 => ?_⟩
  obtain ⟨b, off, ha, hlt, hc⟩ := h5 h0
  have hne : b ≠ M := by
    intro e
    subst e
    obtain ⟨D, ⟨es, clock, he, _⟩, _⟩ := hM
    have := hc 0 (by omega)
    simp [World.cell?, he] at this
  exact ⟨b, off, ha, Nat.lt_of_lt_of_le hlt hg.size, fun j hj => (World.cell?_of_block (a := ⟨b, off + j, none⟩) (hg.block b hlt (by simpa using hne))).trans (hc j hj)⟩
/-- A table and floors in new memory. -/
structure FW (W0 : World) (t B M n : Nat) (F : Int → Option K3) (T : TB) (w : World) : Prop where
  own : OwnP W0 t T w
  obj : Blk w B (floObj M)
  map : MapIs w M n F
  tB : B ≠ t
  tM : M ≠ t
  BM : B ≠ M
  lM : W0.heap.size ≤ M
variable {W0 w w' : World} {t B M n : Nat} {F : Int → Option K3} {T T' : TB} {h : Int}
theorem FW.more (H : FW W0 t B M n F T w) (k : Below w.heap.size w w') : FW W0 t B M n F T w' := ⟨H.own.more k, H.obj.keep k, H.map.keep k, H.tB, H.tM, H.BM, H.lM⟩
theorem FW.drew (H : FW W0 t B M n F T w) : FW W0 t B M n F T w.drew := H.more (Below.refl _ _).drew
theorem FW.alloc (H : FW W0 t B M n F T w) (o : Obj) : FW W0 t B M n F T (w.alloc o) := H.more (Go.Proofs.Ytfpmmbbbndobiaa.more (Below.refl _ _) _)
theorem FW.turn (H : FW W0 t B M n F T w) (k : Turn t T'.obj w w') (hw : T'.Ways) (hp : PathsIn w' t T') : FW W0 t B M n F T' w' :=
  ⟨⟨H.own.own.step k hw, hp⟩, k.keep H.obj H.tB, H.map.block (k.other M H.map.lt H.tM), H.tB, H.tM, H.BM, H.lM⟩
theorem fw_offer (now f : Int) (x : KV) (p : List Int) (H : FW W0 t B M n F T w) (L : Flo T h F) (hp : PathOK w t x p) :
    Calls Try.prog 14 #[.pointer (some ⟨t, 0, none⟩), .int .i64 now, .int .i64 f, .agg (knc x).toArray, keyV ((F x.d).getD k00), .bool (F x.d).isSome] w fun r w' => (∃ a b : Int, r = .returned (.tuple #[.int .i64 a, .int .i64 b])) ∧ (∃ T', FW W0 t B M n F T' w' ∧ Flo T' h F) ∧ ∀ b o, Blk w b o → b ≠ t → Blk w' b o := by
  have PUT : ∀ r w2, (∀ k, F x.d = some k → 0 ≤ cmpK x.k k) → OfPostN T now f x x.pn p t w r w2 → (∃ a b : Int, r = .returned (.tuple #[.int .i64 a, .int .i64 b])) ∧ (∃ T', FW W0 t B M n F T' w2 ∧ Flo T' h F) ∧ ∀ b o, Blk w b o → b ≠ t → Blk w2 b o := by
    intro r w2 hk hh
    rcases hh with ⟨⟨rfl, hT⟩, _⟩ | ⟨a, c, ⟨rfl, hT⟩, hr⟩
    · exact ⟨⟨_, _, rfl⟩, ⟨_, H.turn hT (ofV_ways H.own.own.wy _ _ _).1 ((H.own.paths.turn hT).of now f x (hp.turn hT)), L.of now f x hk⟩, fun b o hb hne => hT.keep hb hne⟩
    · obtain ⟨hB, hn, hl⟩ := hp.1.row
      obtain ⟨y, hy⟩ : ∃ y : KV, y = { x with pa := a, pn := x.pn, pc := c } := ⟨_, rfl⟩
      have hpy : PathOK w2 t y p := by rw [hy]; exact PathOK.ofRow (x := x) hB hp.2.1 hl H.own.own.blk.lt hr
      rw [← hy] at hT
      exact ⟨⟨_, _, rfl⟩, ⟨_, H.turn hT (ofV_ways H.own.own.wy _ _ _).1 ((H.own.paths.turn hT).of now f y hpy), L.of now f y (by rw [hy]; exact hk)⟩, fun b o hb hne => hT.keep hb hne⟩
  cases hF : F x.d with
  | none => exact (offers_any T now f x k00 t w H.own.own.blk H.own.own.wy x.pn p ⟨hp.1, hp.2.1⟩).mono fun r w' hh => PUT r w' (fun k hk => by rw [hF] at hk; cases hk) hh
  | some fl =>
    by_cases hc : cmpK fl x.k ≤ 0
    · refine (offersF_any T now f x fl hc t w H.own.own.blk H.own.own.wy x.pn p ⟨hp.1, hp.2.1⟩).mono fun r w' hh => PUT r w' (fun k hk => ?_) hh
      rw [hF] at hk
      cases hk
      rw [cmpK_ge]
      intro hl
      have := (cmpK_gt _ _).2 hl
      omega
    · refine (offersL_any T now f x fl (by omega) t w H.own.own.blk H.own.own.wy).mono fun r w' hh => ?_
      obtain ⟨e, rfl, hT⟩ := hh
      exact ⟨⟨_, _, rfl⟩, ⟨T, H.turn hT H.own.own.wy (H.own.paths.turn hT), L⟩, fun b o hb hne => hT.keep hb hne⟩
theorem fw_drop {now : Int} {q : Nat → OW → Bool} {r : Ending} (H : FW W0 t B M n F T w) (L : Flo T h F) (hd : DropPost T now q t w r w') : (∃ a m c, r = .returned (.slice a m c)) ∧ ∃ T', FW W0 t B M n F T' w' ∧ Flo T' h F := by
  obtain ⟨v, rfl, ho, hT⟩ := hd
  obtain ⟨a, c, rfl⟩ := row_slice ho
  exact ⟨⟨a, _, c, rfl⟩, _, H.turn hT (dropD_ways H.own.own.wy _ _ (Nat.le_refl 8)) ((H.own.paths.turn hT).drop _ _ _), L.drop _ _⟩
theorem fw_break (now f : Int) (H : FW W0 t B M n F T w) (L : Flo T h F) (ht : tmB now = true) (hh : 0 ≤ h ∧ h ≤ 1048576) : Calls Try.prog 19 #[.pointer (some ⟨t, 0, none⟩), .int .i64 now, .int .i64 f] w fun r w' => (∃ a m c, r = .returned (.slice a m c)) ∧ ∃ T', FW W0 t B M n F T' w' ∧ Flo T' h F :=
  (break_any T now f t w H.own.own.blk ht (by rw [L.hold]; exact hh) H.own.own.wy).mono fun _ _ hd => fw_drop H L hd
theorem fw_expire (now : Int) (H : FW W0 t B M n F T w) (L : Flo T h F) (ht : tmB now = true) (hh : 0 ≤ h ∧ h ≤ 1048576) : Calls Try.prog 20 #[.pointer (some ⟨t, 0, none⟩), .int .i64 now] w fun r w' => (∃ a m c, r = .returned (.slice a m c)) ∧ ∃ T', FW W0 t B M n F T' w' ∧ Flo T' h F :=
  (expire_any T now t w H.own.own.blk ht (by rw [L.hold]; exact hh) H.own.own.wy).mono fun _ _ hd => fw_drop H L hd
theorem fw_get (d : Int) (H : FW W0 t B M n F T w) (L : Flo T h F) : Calls Try.prog 24 #[.pointer (some ⟨t, 0, none⟩), .int .i64 d] w fun r w' => (r = .returned (.tuple #[.agg rt0.toArray, .bool false]) ∨ ∃ (e : Nat) (kk : K3) (n s : Int) (y : KV), d = e ∧ e < 8 ∧ e ≠ 0 ∧ krB kk = true ∧ r = .returned (.tuple #[.agg (rtc e kk n true s y).toArray, .bool true])) ∧ FW W0 t B M n F T w' ∧ Below w.heap.size w w' := by
  cases hk : lkB T d with
  | false =>
    refine (get_no (.pointer (some ⟨t, 0, none⟩)) d w (fun wx hx => (lookup_any T t d wx (H.own.own.blk.keep hx) H.own.own.wy).mono (fun r w' hh => ⟨⟨lkN T d, by rw [hh.1, hk]⟩, hh.2⟩))).mono ?_
    rintro r w' ⟨rfl, hb⟩
    exact ⟨.inl rfl, H.more hb, hb⟩
  | true =>
    obtain ⟨e, rfl⟩ : ∃ e : Nat, d = e := ⟨d.toNat, by unfold lkB ndB at hk; simp at hk; omega⟩
    obtain ⟨h1, h2, h3, _⟩ := L.lk H.own.own.wy hk
    obtain ⟨p, hp⟩ := H.own.paths (e * 8 + (T.way e).toNat)
    refine (get_yes T t e p w H.own.own.blk H.own.own.wy hk hp).mono ?_
    rintro r w' ⟨a, c, rfl, _, hb⟩
    exact ⟨.inr ⟨e, _, _, _, _, rfl, h1, h2, h3, rfl⟩, H.more hb, hb⟩
theorem fw_raise {d : Nat} (x : K3) (hd : d < 8) (hn : n < maxLen) (H : FW W0 t B M n F T w) : Calls Try.prog 33 #[.pointer (some ⟨B, 0, none⟩), .int .i64 d, keyV x] w fun r w' => (∃ (u : Bool) (e : Int), r = .returned (.tuple #[.bool u, .int .i64 e])) ∧ FW W0 t B M (n + 1) (raiseF F d x) T w' ∧ ∀ b o, Blk w b o → b ≠ M → Blk w' b o := by
  refine (raise_any B M n F d x w H.obj H.map (by simp [Lit.wf, IntKind.min, IntKind.max, IntKind.signed, IntKind.bits]; omega) hn).mono ?_
  rintro r w' ⟨rfl, hM, hg⟩
  have keep : ∀ b o, Blk w b o → b ≠ M → Blk w' b o := fun b o hb hne => (hg.block b hb.lt (by simpa using hne)).trans hb
  refine ⟨⟨_, _, rfl⟩, ⟨⟨⟨H.own.own.le, keep _ _ H.own.own.blk H.tM.symm, H.own.own.hb.grown hg H.own.own.hb.size (fun q e => by cases e; exact H.lM), H.own.own.wy⟩, fun j => ?_⟩, keep _ _ H.obj H.BM, hM, H.tB, H.tM, H.BM, H.lM⟩, keep⟩
  obtain ⟨p, hp⟩ := H.own.paths j
  exact ⟨p, hp.1.grownM H.map hg, hp.2⟩
theorem fw_prune {d : Nat} (x : K3) (hd : d < 8) (h0 : d ≠ 0) (hx : krB x = true) {F0 : Int → Option K3} (L : Flo T h F0) (H : FW W0 t B M n (raiseF F0 d x) T w) : Calls Try.prog 22 #[.pointer (some ⟨t, 0, none⟩), .int .i64 d, keyV x] w fun r w' => r = .returned (.int .i64 0) ∧ FW W0 t B M n (raiseF F0 d x) (pruneI T d x 8) w' ∧ Flo (pruneI T d x 8) h (raiseF F0 d x) := by
  refine (prune_any T d x t w H.own.own.blk hd (by rw [L.self]; unfold ndB; simp; omega) hx).mono ?_
  rintro r w' ⟨rfl, hT⟩
  exact ⟨rfl, H.turn hT (prune_ways H.own.own.wy d x 8) ((H.own.paths.turn hT).prune d x 8), L.raise x hd hx⟩
theorem fw_floor {d : Int} (H : FW W0 t B M n F T w) (hd : (dkey d).wf = true) : Calls Try.prog 32 #[.pointer (some ⟨B, 0, none⟩), .int .i64 d] w fun r w' => r = .returned (.tuple #[keyV ((F d).getD k00), .bool (F d).isSome]) ∧ Below w.heap.size w w' := get_any B M n F d w H.obj H.map hd
theorem dkey_small {d : Nat} (h : d < 8) : (dkey d).wf = true := by simp [Lit.wf, IntKind.min, IntKind.max, IntKind.signed, IntKind.bits]; omega
/-- What Valid answers, place by place. -/
def Rows70 (w : World) (a : Option Addr) (m : Nat) (F : Int → Option K3) : Prop := ∀ k, k < m → ∃ (g off d : Nat) (kk : K3) (n s : Int) (y : KV), a = some ⟨g, off, none⟩ ∧ g < w.heap.size ∧ d < 8 ∧ (∀ q, F d = some q → 0 ≤ cmpK kk q) ∧ w.rangeAt g (off + k * 28) (rtc d kk n true s y)
theorem Rows70.keep {a : Option Addr} {m : Nat} (H : Rows70 w a m F) (hb : Below w.heap.size w w') : Rows70 w' a m F := fun k hk => by
  obtain ⟨g, off, d, kk, n, s, y, h1, h2, h3, h4, h5⟩ := H k hk
  exact ⟨g, off, d, kk, n, s, y, h1, Nat.lt_of_lt_of_le h2 hb.size, h3, h4, rangeAt_below hb h2 h5⟩
theorem rtc_len (d : Int) (k : K3) (n : Int) (v : Bool) (s : Int) (x : KV) : (rtc d k n v s x).length = 28 := rfl
theorem rowsV_at (T : TB) (G : Nat → Int × Int × KV) : ∀ (l : List Nat) (k j : Nat) (d : Nat), l[k]? = some d → j < 28 → (rowsV T G l)[k * 28 + j]? = (rowV T G d)[j]? := by
  intro l
  induction l with
  | nil => intro k j d hk; simp at hk
  | cons a l ih =>
    intro k j d hk hj
    show (rowV T G a ++ rowsV T G l)[k * 28 + j]? = _
    cases k with
    | zero =>
      simp at hk
      subst hk
      rw [List.getElem?_append_left (by show _ < (rtc _ _ _ _ _ _).length; rw [rtc_len]; omega)]
      simp
    | succ k =>
      rw [List.getElem?_append_right (by show (rtc _ _ _ _ _ _).length ≤ _; rw [rtc_len]; omega)]
      rw [show (k + 1) * 28 + j - (rowV T G a).length = k * 28 + j by show _ - (rtc _ _ _ _ _ _).length = _; rw [rtc_len]; omega]
      exact ih k j d (by simpa using hk) hj
theorem rowsV_len (T : TB) (G : Nat → Int × Int × KV) : ∀ l : List Nat, (rowsV T G l).length = l.length * 28 := by
  intro l
  induction l with
  | nil => rfl
  | cons a l ih =>
    show (rowV T G a ++ rowsV T G l).length = _
    rw [List.length_append, ih]
    show (rtc _ _ _ _ _ _).length + _ = _
    rw [rtc_len, List.length_cons]
    omega
theorem fw_valid (H : FW W0 t B M n F T w) (L : Flo T h F) : Calls Try.prog 23 #[.pointer (some ⟨t, 0, none⟩)] w fun r w' => (∃ a m c, r = .returned (.slice a m c) ∧ m ≤ 8 ∧ Rows70 w' a m F) ∧ FW W0 t B M n F T w' := by
  refine (valid_any T t w H.own.own.blk H.own.own.wy H.own.paths).mono ?_
  rintro r w' ⟨v, G, rfl, ho, hb⟩
  obtain ⟨a, c, rfl⟩ := row_is ho
  refine ⟨⟨a, _, c, rfl, valid_len T 8, fun k hk => ?_⟩, H.more hb⟩
  obtain ⟨d, hd⟩ : ∃ d, (validL T 8)[k]? = some d := ⟨_, List.getElem?_eq_getElem hk⟩
  have hm : d ∈ validL T 8 := List.mem_of_getElem? hd
  have hl : lkB T d = true := (List.mem_filter.1 hm).2
  obtain ⟨h1, h2, h3, h4⟩ := L.lk H.own.own.wy hl
  rcases ho.2 with ⟨e, h0⟩ | ⟨g, cap, cur, e, hB, hg, c1, c2, c3, c4⟩
  · rw [h0] at hk; exact absurd hk (Nat.not_lt_zero k)
  · cases e
    refine ⟨g, 0, d, (lkO T d).kn.k, (G d).1, (G d).2.1, (G d).2.2, rfl, (Array.getElem?_eq_some_iff.1 hg).1, h1, h4, fun j v hv => ?_⟩
    have hj : j < 28 := by have := (List.getElem?_eq_some_iff.1 hv).1; rwa [rtc_len] at this
    rw [cell_of_row w' g (0 + k * 28 + j) cur 70 (0, 0) hg]
    have h5 := rowsV_at T G (validL T 8) k j d hd hj
    rw [← c4, List.getElem?_take, if_pos (by have : k + 1 ≤ (validL T 8).length := hk; have := Nat.mul_le_mul_right 28 this; omega)] at h5
    rw [show 0 + k * 28 + j = k * 28 + j by omega]
    have h6 : (rowV T G d)[j]? = some v := hv
    rw [← h6, ← h5]
    simp
end Go.Proofs.Ytfpmmbbbndobiaa
