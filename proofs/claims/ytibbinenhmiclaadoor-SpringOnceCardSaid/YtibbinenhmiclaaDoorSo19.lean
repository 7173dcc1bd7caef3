/-
  SpringOnce on its way.
  SpringOnce.
  What the listed variable holds gives the walks: the standard's constants. The door's own heap meets the condition.
-/
import Derived.Test.YtibbinenhmiclaaDoorSo18
import Derived.Test.YtibbinenhmiclaaDoorRows
import Derived.ProofKit
import Derived.LaidMore
import Derived.OpenShut
import Derived.Stop.Joined
namespace Go.Proofs.YtibbinenhmiclaaDoor
open Go.ChangeShapes Go.WideShapes Go.ChangeAt Go.RowKit Go.Deep
open Go.Maps

/-- The slice's cells are the numbers ns, each of 64 bits. -/
def HoldsN (w : World) (a : Option Addr) (ns : List Int) : Prop :=
  (∀ x ∈ ns, -9223372036854775808 ≤ x ∧ x < 9223372036854775808) ∧ ∀ i, i < ns.length → ∃ b off, a = some ⟨b, off, none⟩ ∧ b < w.heap.size ∧ w.cell? ⟨b, off + i, none⟩ = some (.int .i64 (ns.getD i 0))
theorem HoldsN.keep {w w' : World} {a : Option Addr} {ns : List Int} (h : HoldsN w a ns) (hb : Below w.heap.size w w') : HoldsN w' a ns := by
  refine ⟨h.1, fun i hi => ?_⟩
  obtain ⟨b, off, e1, e2, e3⟩ := h.2 i hi
  exact ⟨b, off, e1, Nat.lt_of_lt_of_le e2 hb.size, (hb.cell (p := ⟨b, off + i, none⟩) e2).trans e3⟩
/-- A slice of numbers that came in. -/
theorem row_asks {H : Type} {enc : TypeId × Value → H} {W : World} {a : Option Addr} {len cap : Nat} {d : DataW H} {p : List MemPlace}
    (k : DataW.Trod enc Tryd.prog W 0 (fun _ => true) true 39 (.slice a len cap) d p) : ∃ ns, ns.length = len ∧ HoldsN W a ns := by
  obtain ⟨fuel, hf⟩ := k
  rcases open_slice1 Tryd.underlying39 (by kernel_rfl) hf with ⟨hcs, _⟩ | ⟨x, l, c, m, n, V, D, Pl, hcs, hb, hl, hm, hmm, hx, hi⟩
  · simp [Value.cells] at hcs
    obtain ⟨rfl, rfl, rfl⟩ := hcs
    exact ⟨[], rfl, (fun x h => by cases h), fun i hi => by simp at hi⟩
  · simp [Value.cells] at hcs
    obtain ⟨rfl, rfl, rfl⟩ := hcs
    have hmc : m = cap := by simpa using hmm
    have each : ∀ i, i < len → ∃ z : Int, W.cell? (x.add i) = some (.int .i64 z) ∧ -9223372036854775808 ≤ z ∧ z < 9223372036854775808 := fun i him => by
      obtain ⟨hc, ht⟩ := hi i (by omega)
      obtain ⟨u, e0, _, wu⟩ := DataW.trod_int Tryd.underlying3 ht
      simp only [List.cons.injEq, and_true] at e0
      rw [e0] at hc
      have h1 : IntKind.i64.min = -9223372036854775808 := rfl
      have h2 : IntKind.i64.max = 9223372036854775807 := rfl
      simp [Lit.wf, h1, h2] at wu
      exact ⟨u, hc, by omega⟩
    obtain ⟨f, hf'⟩ : ∃ f : Nat → Int, ∀ i, i < len → W.cell? (x.add i) = some (.int .i64 (f i)) ∧ -9223372036854775808 ≤ f i ∧ f i < 9223372036854775808 := by
      refine ⟨fun i => if h : i < len then Classical.choose (each i h) else 0, fun i hi => ?_⟩
      simp only [hi, dif_pos]
      exact Classical.choose_spec (each i hi)
    refine ⟨(List.range len).map f, by simp, fun z hz => ?_, fun i hi' => ?_⟩
    · obtain ⟨i, hi, rfl⟩ := List.mem_map.1 hz
      exact (hf' i (List.mem_range.1 hi)).2
    · simp at hi'
      have h1 := (hf' i hi').1
      have hsp : x.spot = none ∧ x.block < W.heap.size := by
        have h1 := (hf' 0 (by omega)).1
        have h2 : x.add 0 = x := by simp [Addr.add]
        rw [h2] at h1
        exact ⟨World.cell?_spot h1, World.block_lt_of_cell? W _ h1⟩
      obtain ⟨b, off, spot⟩ := x
      simp only at hsp
      obtain ⟨rfl, hlt⟩ := hsp
      have e : (⟨b, off, none⟩ : Addr).add i = ⟨b, off + i, none⟩ := by unfold Addr.add; split <;> simp_all
      rw [e] at h1
      refine ⟨b, off, rfl, hlt, ?_⟩
      rw [h1, List.getD_eq_getElem?_getD, List.getElem?_map, List.getElem?_range hi']
      rfl
theorem elementG_any (m : SpM) (B S C n k : Nat) (P : Nat → Prop) (f : Nat → Option Value) (gl : GS) (q r : Nat) (w : World) (hk : KonIs w) (ho : SpOk m) (h : SpG w B S C m n k P f gl) (hb0 : 0 < B) (hbw : B ≤ w.heap.size) (hq : q < n) (hn : n ≤ 64) (hr : (r : Int) ≤ m.st) :
    Calls Tryd.prog 18 #[.pointer (some ⟨S, 0, none⟩), .int .i64 q, .int .i64 r] w fun e w' => ∃ f', e = .returned (.tuple #[dgV (elR m q r), .int .i64 0]) ∧ SpG w' B S C m n k P f' gl ∧ f' q ≠ none ∧ (f q ≠ none → f' = f) ∧ (∀ j, f j ≠ none → f' j ≠ none) ∧ cntF f' n ≤ cntF f n + 1 ∧ Off B S C w w' ∧ KonIs w' := by
  refine (element_ok m B S C n f gl (cntF f n) q r w hk ho h.sp hb0 hbw hq hn (by have := cntF_le f n; omega) hr).mono ?_
  rintro e w' ⟨v, f', mk', rfl, h1, h2, h3, h4, h5, h6⟩
  by_cases hc : f q = none
  · obtain ⟨e1, e2⟩ := h4 hc
    have e3 : (cntF f' n : Int) = mk' := by rw [e1, e2, cntF_upd hc hq]; omega
    refine ⟨f', rfl, ⟨by rw [e3]; exact h1, h.ps, h.pc, ?_⟩, by rw [h2]; simp, fun h9 => absurd hc h9, fun j hj => ?_, by rw [e1, cntF_upd hc hq]; exact Nat.le_refl _, h5, h6⟩
    · rcases h.g with e | ⟨G, e, a1, a2⟩
      · exact .inl e
      · exact absurd hc (a1 q hq)
    · rw [e1]
      unfold updF
      split
      · simp
      · exact hj
  · obtain ⟨e1, e2⟩ := h3 hc
    subst e1
    refine ⟨f', rfl, ⟨by rw [← e2]; exact h1, h.ps, h.pc, ?_⟩, hc, fun _ => rfl, fun j hj => hj, by omega, h5, h6⟩
    rcases h.g with e | ⟨G, e, a1, a2⟩
    · exact .inl e
    · exact .inr ⟨G, e, a1, h5.grove a2 h.ps h.pc⟩
/-- The law, in its loop. -/
structure ON (w : World) (A B S C M n k : Nat) (m : SpM) (P : Nat → Prop) (f : Nat → Option Value) (gl : GS) (kn : Nat → Option Value) (c : Nat) (W : World) : Prop where
  kon : KonIs W
  sg : SpG W B S C m n k P f gl
  map : KnIs W M n c m kn
  sub : ∀ q, q < n → kn q ≠ none → f q ≠ none
  a0 : Blk W A (.cells #[.int .i64 m.wd, .int .i64 m.st, .int .i64 m.ht] 23)
  pm : ¬ P M
  ms : M ≠ S ∧ M ≠ C ∧ w.heap.size ≤ M
  below : Below w.heap.size w W
  bnd : w.heap.size ≤ A ∧ A < B ∧ B ≤ W.heap.size ∧ 0 < w.heap.size
  am : A ≠ M
theorem ON.more {w W W' : World} {A B S C M n k : Nat} {m : SpM} {P : Nat → Prop} {f : Nat → Option Value} {gl : GS} {kn : Nat → Option Value} {c : Nat} (h : ON w A B S C M n k m P f gl kn c W) (hb : Below W.heap.size W W') : ON w A B S C M n k m P f gl kn c W' :=
  ⟨h.kon.keep hb, h.sg.keep hb, h.map.keep (hb.block M h.map.lt), h.sub, h.a0.keep hb, h.pm, h.ms, h.below.trans (hb.mono h.below.size), ⟨h.bnd.1, h.bnd.2.1, Nat.le_trans h.bnd.2.2.1 hb.size, h.bnd.2.2.2⟩, h.am⟩
theorem ON.call {w W W' : World} {A B S C M n k : Nat} {m : SpM} {P P' : Nat → Prop} {f f' : Nat → Option Value} {gl gl' : GS} {kn : Nat → Option Value} {c : Nat} (h : ON w A B S C M n k m P f gl kn c W) (hk : KonIs W') (hs : SpG W' B S C m n k P' f' gl') (hf : ∀ j, j < n → f j ≠ none → f' j ≠ none) (hp : ∀ x, P' x → P x ∨ W.heap.size ≤ x) (ho : Off B S C W W') : ON w A B S C M n k m P' f' gl' kn c W' := by
  have h1 := h.bnd
  have h2 := h.sg.sp.bs
  have h3 := h.sg.sp.bc
  have h4 := h.map.lt
  exact ⟨hk, hs, h.map.keep (ho.o M h4 h.ms.1 h.ms.2.1), fun q hq hkn => hf q hq (h.sub q hq hkn), ho.blk h.a0 (by omega) (by omega), fun e => (hp M e).elim h.pm (fun e2 => by omega), h.ms, h.below.trans (ho.b.mono (by omega)), ⟨h1.1, h1.2.1, Nat.le_trans h1.2.2.1 ho.b.size, h1.2.2.2⟩, h.am⟩
theorem KnIs.noRow {w : World} {M n c : Nat} {m : SpM} {kn : Nat → Option Value} {B e sz l : Nat} {v : Value} {xs : List Value} (h : KnIs w M n c m kn) (hv : w.ownsRow B e sz v l xs) : v.ownBlock ≠ some M := fun hk => by
  obtain ⟨D, ⟨es, clock, h1, h2⟩, h3⟩ := h
  obtain ⟨cur, hc⟩ := ownsRow_typeS hv hk
  rw [h1] at hc
  simp at hc
theorem ON.upd {w W W' : World} {A B S C M n k : Nat} {m : SpM} {P : Nat → Prop} {f : Nat → Option Value} {gl : GS} {kn : Nat → Option Value} {c q : Nat} (h : ON w A B S C M n k m P f gl kn c W) (hg : W.grownBy W' (some M)) (hk : KnIs W' M n (c + 1) m (updF kn q (.bool true))) (hq : f q ≠ none) : ON w A B S C M n k m P f gl (updF kn q (.bool true)) (c + 1) W' := by
  have h1 := h.bnd
  have h2 := h.sg.sp.bs
  have hb : ∀ x, x < W.heap.size → x ≠ M → W'.heap[x]? = W.heap[x]? := fun x hx hne => hg.block x hx (by simpa using hne)
  have hms := h.ms
  refine ⟨h.kon.frame (hb 0 h.kon.pos (by omega)), ⟨h.sg.sp.grown hg (fun e => h.ms.1 (by simpa using e)) (fun e => h.ms.2.1 (by simpa using e)) (fun i v kk hi hf hkk e => h.map.noRow (h.sg.sp.el i v hi hf) (by rw [hkk, e])), h.sg.ps, h.sg.pc, ?_⟩, hk, fun j hj hj2 => ?_, (hb A h.a0.lt h.am).trans h.a0, h.pm, h.ms, h.below.trans ⟨hg.os, hg.tape, hg.output, hg.size, fun x hx => hb x (by omega) (by omega)⟩, ⟨h1.1, h1.2.1, Nat.le_trans h1.2.2.1 hg.size, h1.2.2.2⟩, h.am⟩
  · rcases h.sg.g with e | ⟨G, e, a1, a2⟩
    · exact .inl e
    · exact .inr ⟨G, e, a1, a2.blks hg.size fun x hx hp => hb x hx fun e2 => h.pm (e2 ▸ hp)⟩
  · unfold updF at hj2
    by_cases e : j = q
    · rw [e]; exact hq
    · rw [if_neg e] at hj2
      exact h.sub j hj hj2
end Go.Proofs.YtibbinenhmiclaaDoor

namespace Go.Proofs.YtibbinenhmiclaaDoor
open Go.RowKit Go.Maps

theorem wpList_look {P : Program} {w : World} {ops : Array Oper} {rest : List Oper} {o : Oper} {a : Act} {Q : Exit → Act → World → Prop} (hg : o.guard = none) (t : TypeId) (x y : Operand) (hop : o.op = .lookup t x y true) {u1 u2 v : Value} (hx : a.eval x = u1) (hy : a.eval y = u2)
    (hrun : (Instr.lookup t u1 u2 true).run P w = .ok v w) (h : wpList P ops Q rest (a.put o.dst v) w) : wpList P ops Q (o :: rest) a w := by
  refine wpList_plain hg fun K' hK' => ?_
  unfold Oper.wp
  simp only [execOp, hop, hx, hy, Sem.run_bind, hrun, Result.andThen_ok, Sem.run_pure]
  exact hK' _ _ h
set_option maxRecDepth 100000 in
set_option maxHeartbeats 16000000 in
theorem springOnce_any (m : SpM) (w : World) (hk : KonIs w) (hl : m.seed.length = 32) (hb : Bytes m.seed) (he : 0 ≤ m.e) (a4 : Option Addr) (len4 cap4 : Nat) (z4 : List Int) (ha : z4.length = len4 ∧ HoldsN w a4 z4) :
    Calls Tryd.prog 4 #[.agg #[.int .i64 m.wd, .int .i64 m.st, .int .i64 m.ht], .agg (bv m.seed).toArray, .int .i64 m.d, .int .u32 m.e, .slice a4 len4 cap4] w fun r w' => r = .returned (.bool true) ∧ Below w.heap.size w w' := by
  have HL := Kp.mk (And.intro hl trivial)
  have HE := Kp.mk (And.intro hb he)
  have HA4 := Kp.mk ha
  have HW0 := Kp.mk hk.pos
  obtain ⟨A, hA⟩ : ∃ A, A = w.heap.size := ⟨_, rfl⟩
  have HAe := Kp.mk hA
  have H0 : Kp (NW w A m ((w.alloc (.cells #[.int .i64 m.wd, .int .i64 m.st, .int .i64 m.ht] 23)).alloc (.cells (bv m.seed).toArray 24))) := ⟨⟨(Blk.newAt _ hA).old _, Blk.newAt _ (by simp [hA]), by rw [hA]; exact more (more (Below.refl _ _) _) _, (hk.keep (more (Below.refl _ _) _)).keep (more (Below.refl _ _) _)⟩⟩
  have hC := fun (w : World) => box_row (t := 24) (cs := bv m.seed) (info24s HL.out.1) w
  clear hk hl hb he ha
  go_enter Tryd.func4, Tryd.ntmps4
  go_wp2_with (refine wpList_box_eq rfl 24 (.tmp 1) rfl _ rfl _ _ (hC _) ?_)
  rw [← hA]
  clear hC hA
  generalize (w.alloc (.cells #[.int .i64 m.wd, .int .i64 m.st, .int .i64 m.ht] 23)).alloc (.cells (bv m.seed).toArray 24) = W at *
  refine (lightR_any m W).mono ?_
  rintro r w1 ⟨rfl, hb⟩
  replace H0 : Kp (NW w A m w1) := ⟨H0.out.more hb⟩
  clear hb
  cases hlt : lightR m
  · clear hlt
    go_wp2_with fail
    refine (awakeSp_any _ H0.out.k).mono ?_
    rintro r w9 ⟨rfl, hb⟩
    have HB9 : Kp (Below w.heap.size w w9) := ⟨by rw [← HAe.out]; exact (H0.out.more hb).below⟩
    clear hb
    go_wp2_with fail
    go_ret
    exact ⟨rfl, HB9.out⟩
  · have HLT := Kp.mk hlt
    clear hlt
    have q0 : w1.cell? ⟨A, 0, none⟩ = some (.int .i64 m.wd) := H0.out.a0.cell 0
    have q1 : w1.cell? ⟨A, 1, none⟩ = some (.int .i64 m.st) := H0.out.a0.cell 1
    have q2 : w1.cell? ⟨A, 2, none⟩ = some (.int .i64 m.ht) := H0.out.a0.cell 2
    go_wp2_with fail
    clear q0 q1 q2
    refine (fitsR_any m w1).mono ?_
    rintro r w2 ⟨rfl, hb⟩
    replace H0 : Kp (NW w A m w2) := ⟨H0.out.more hb⟩
    clear hb
    cases hf : fitR m
    · clear hf
      go_wp2_with fail
      refine (awakeSp_any _ H0.out.k).mono ?_
      rintro r w9 ⟨rfl, hb⟩
      have HB9 : Kp (Below w.heap.size w w9) := ⟨by rw [← HAe.out]; exact (H0.out.more hb).below⟩
      clear hb
      go_wp2_with fail
      go_ret
      exact ⟨rfl, HB9.out⟩
    · have HOK := Kp.mk (fitR_ok hf HE.out.2 HL.out.1 HE.out.1)
      clear hf
      obtain ⟨n, hn⟩ : ∃ n, n = 2 ^ m.ht.toNat := ⟨_, rfl⟩
      have HN : Kp (n = 2 ^ m.ht.toNat ∧ m.ht.toNat ≤ 6 ∧ n ≤ 64 ∧ 0 < n) := by
        have h7 : m.ht.toNat ≤ 6 := by have := HOK.out.h; omega
        exact ⟨hn, h7, by rw [hn]; exact Nat.le_trans (Nat.pow_le_pow_right (by decide) h7) (by decide), by rw [hn]; exact Nat.pow_pos (by decide)⟩
      go_wp2_with fail
      refine wp_region_held_drew (S := fun w' => Kp (NW w A m w')) (by kernel_rfl) (⟨H0.out.more (Below.refl _ _).drew⟩) (fun hH => ?_)
      refine wpAnyH_take (i := 0) (oi := { dst := some 35, op := Go.Op.load 23 (Go.Operand.tmp 5), type := 23, pos := "law.go:66", after := #[], guard := none }) (v := .agg #[.int .i64 m.wd, .int .i64 m.st, .int .i64 m.ht]) rfl (by kernel_rfl) (by kernel_rfl) (by kernel_rfl) (fun _ _ _ h => h) (Or.inl ⟨by rfl, fun w hS => exec_load_blk 23 (.tmp 5) rfl A rfl 23 #[.int .i64 m.wd, .int .i64 m.st, .int .i64 m.ht] (0, 0) _ hS.out.a0 Tryd.underlying23 rfl info23s⟩) hH ?_
      simp only [Act.put, List.setIfInBounds_toArray, List.set_cons_zero, List.set_cons_succ]
      refine wpAnyH_take (i := 2) (oi := { dst := some 37, op := Go.Op.load 24 (Go.Operand.tmp 6), type := 24, pos := "law.go:66", after := #[], guard := none }) (v := .agg (bv m.seed).toArray) rfl (by kernel_rfl) (by kernel_rfl) (by kernel_rfl) (fun _ _ _ h => h) (Or.inl ⟨by rfl, fun w hS => exec_load_blk 24 (.tmp 6) rfl (A + 1) rfl 24 (bv m.seed).toArray (0, 0) _ hS.out.a1 Tryd.underlying24 rfl (info24s HL.out.1)⟩) hH ?_
      simp only [Act.put, List.setIfInBounds_toArray, List.set_cons_zero, List.set_cons_succ]
      refine wpAnyH_take (i := 3) (oi := { dst := some 38, op := Go.Op.move (Go.Operand.tmp 2), type := 3, pos := "law.go:66", after := #[], guard := none }) (v := .int .i64 m.d) rfl (by kernel_rfl) (by kernel_rfl) (by kernel_rfl) (fun _ _ _ h => h) (Or.inl ⟨by rfl, fun w hS => by first | rfl | go_simp⟩) hH ?_
      simp only [Act.put, List.setIfInBounds_toArray, List.set_cons_zero, List.set_cons_succ]
      refine wpAnyH_take (i := 4) (oi := { dst := some 39, op := Go.Op.move (Go.Operand.tmp 3), type := 25, pos := "law.go:66", after := #[], guard := none }) (v := .int .u32 m.e) rfl (by kernel_rfl) (by kernel_rfl) (by kernel_rfl) (fun _ _ _ h => h) (Or.inl ⟨by rfl, fun w hS => by first | rfl | go_simp⟩) hH ?_
      simp only [Act.put, List.setIfInBounds_toArray, List.set_cons_zero, List.set_cons_succ]
      refine wpAnyH_ready (rs := [1]) (by kernel_rfl) (by simp) ?_
      refine AllReadyH.cons (o := { dst := some 36, op := Go.Op.call { callee := Go.Callee.value (Go.Operand.func 8), args := #[Go.Operand.tmp 35], argTypes := #[23] }, type := 30, pos := "law.go:66", after := #[{ on := 0, ground := Go.Ground.data }], guard := none }) rfl (fun K hK => ?_) AllReadyH.nil
      go_simp
      refine (toSp_any m.wd m.st m.ht _).mono ?_
      rintro r w3 ⟨rfl, hb⟩
      have H1 : Kp (NW w A m w3) := ⟨(H0.out.more (Below.refl _ _).drew).more hb⟩
      clear hb H0
      refine hK.out _ _ (H1) (fun hHn => ?_)
      clear hK K hH
      have hH := hHn
      clear hHn
      try simp only [Act.put, List.setIfInBounds_toArray, List.set_cons_zero, List.set_cons_succ]
      refine wpAnyH_ready (rs := [5]) (by kernel_rfl) (by simp) ?_
      refine AllReadyH.cons (o := { dst := some 40, op := Go.Op.call { callee := Go.Callee.value (Go.Operand.func 7), args := #[Go.Operand.tmp 36, Go.Operand.tmp 37, Go.Operand.tmp 38, Go.Operand.tmp 39], argTypes := #[30, 70, 3, 25] }, type := 28, pos := "law.go:66", after := #[{ on := 1, ground := Go.Ground.data }, { on := 2, ground := Go.Ground.data }, { on := 3, ground := Go.Ground.data }, { on := 4, ground := Go.Ground.data }, { on := 1, ground := Go.Ground.chain }], guard := none }) rfl (fun K hK => ?_) AllReadyH.nil
      go_simp
      refine (new_ok m n w3 HOK.out HN.out.1).mono ?_
      rintro r w4 ⟨S, C, rfl, hs, hb⟩
      have H2 : Kp (NW w A m w4 ∧ SpIs w4 w3.heap.size S C m n (fun _ => none) gs0 0 ∧ A + 1 < w3.heap.size ∧ w3.heap.size ≤ w4.heap.size) := ⟨H1.out.more hb, hs, H1.out.a1.lt, hb.size⟩
      clear hs hb H1
      refine hK.out _ _ (⟨H2.out.1⟩) (fun hHn => ?_)
      clear hK K hH
      have hH := hHn
      clear hHn
      try simp only [Act.put, List.setIfInBounds_toArray, List.set_cons_zero, List.set_cons_succ]
      refine wpAnyH_take (i := 6) (oi := { dst := some 34, op := Go.Op.move (Go.Operand.tmp 40), type := 28, pos := "law.go:66", after := #[{ on := 5, ground := Go.Ground.data }], guard := none }) (v := .tuple #[.pointer (some ⟨S, 0, none⟩), .int .i64 0]) rfl (by kernel_rfl) (by kernel_rfl) (by kernel_rfl) (fun _ _ _ h => h) (Or.inl ⟨by rfl, fun w hS => by first | rfl | go_simp⟩) hH ?_
      simp only [Act.put, List.setIfInBounds_toArray, List.set_cons_zero, List.set_cons_succ]
      refine wpAnyH_take (i := 7) (oi := { dst := some 41, op := Go.Op.extract (Go.Operand.tmp 34) 0, type := 26, pos := "law.go:66", after := #[{ on := 6, ground := Go.Ground.data }], guard := none }) (v := .pointer (some ⟨S, 0, none⟩)) rfl (by kernel_rfl) (by kernel_rfl) (by kernel_rfl) (fun _ _ _ h => h) (Or.inl ⟨by rfl, fun w hS => by first | rfl | go_simp⟩) hH ?_
      simp only [Act.put, List.setIfInBounds_toArray, List.set_cons_zero, List.set_cons_succ]
      refine wpAnyH_take (i := 8) (oi := { dst := some 42, op := Go.Op.extract (Go.Operand.tmp 34) 1, type := 27, pos := "law.go:66", after := #[{ on := 6, ground := Go.Ground.data }, { on := 9, ground := Go.Ground.gcOnly Go.Departure.lateStores }], guard := none }) (v := .int .i64 0) rfl (by kernel_rfl) (by kernel_rfl) (by kernel_rfl) (fun _ _ _ h => h) (Or.inl ⟨by rfl, fun w hS => by first | rfl | go_simp⟩) hH ?_
      simp only [Act.put, List.setIfInBounds_toArray, List.set_cons_zero, List.set_cons_succ]
      refine wpAnyH_take (i := 9) (oi := { dst := some 11, op := Go.Op.assign (Go.Operand.tmp 41), type := 26, pos := "law.go:66", after := #[{ on := 7, ground := Go.Ground.data }, { on := 5, ground := Go.Ground.chain }, { on := 0, ground := Go.Ground.phase }, { on := 1, ground := Go.Ground.phase }, { on := 2, ground := Go.Ground.phase }, { on := 3, ground := Go.Ground.phase }, { on := 4, ground := Go.Ground.phase }, { on := 5, ground := Go.Ground.phase }, { on := 6, ground := Go.Ground.phase }, { on := 7, ground := Go.Ground.phase }, { on := 8, ground := Go.Ground.textOnly Go.Departure.lateStores }], guard := none }) (v := .pointer (some ⟨S, 0, none⟩)) rfl (by kernel_rfl) (by kernel_rfl) (by kernel_rfl) (fun _ _ _ h => h) (Or.inl ⟨by rfl, fun w hS => by first | rfl | go_simp⟩) hH ?_
      simp only [Act.put, List.setIfInBounds_toArray, List.set_cons_zero, List.set_cons_succ]
      refine wpAnyH_take (i := 10) (oi := { dst := some 12, op := Go.Op.assign (Go.Operand.tmp 42), type := 27, pos := "law.go:66", after := #[{ on := 8, ground := Go.Ground.data }, { on := 9, ground := Go.Ground.chain }, { on := 0, ground := Go.Ground.phase }, { on := 1, ground := Go.Ground.phase }, { on := 2, ground := Go.Ground.phase }, { on := 3, ground := Go.Ground.phase }, { on := 4, ground := Go.Ground.phase }, { on := 5, ground := Go.Ground.phase }, { on := 6, ground := Go.Ground.phase }, { on := 7, ground := Go.Ground.phase }, { on := 8, ground := Go.Ground.phase }, { on := 9, ground := Go.Ground.phase }], guard := none }) (v := .int .i64 0) rfl (by kernel_rfl) (by kernel_rfl) (by kernel_rfl) (fun _ _ _ h => h) (Or.inl ⟨by rfl, fun w hS => by first | rfl | go_simp⟩) hH ?_
      simp only [Act.put, List.setIfInBounds_toArray, List.set_cons_zero, List.set_cons_succ]
      clear hH
      refine wpAnyH_done (by kernel_rfl) ?_ _
      go_wp2_with fail
      refine (awakeSp_any w4 H2.out.1.k).mono ?_
      rintro r w5 ⟨rfl, hb⟩
      have H5 : Kp (NW w A m w5 ∧ SpIs w5 w3.heap.size S C m n (fun _ => none) gs0 0 ∧ A + 1 < w3.heap.size ∧ w3.heap.size ≤ w5.heap.size) := ⟨H2.out.1.more hb, H2.out.2.1.keep hb, H2.out.2.2.1, Nat.le_trans H2.out.2.2.2 hb.size⟩
      clear hb H2
      have q0 : w5.cell? ⟨A, 0, none⟩ = some (.int .i64 m.wd) := H5.out.1.a0.cell 0
      have q1 : w5.cell? ⟨A, 1, none⟩ = some (.int .i64 m.st) := H5.out.1.a0.cell 1
      have q2 : w5.cell? ⟨A, 2, none⟩ = some (.int .i64 m.ht) := H5.out.1.a0.cell 2
      go_wp2_with fail
      clear q0 q1 q2
      refine (manyR_any m w5 HOK.out.h).mono ?_
      rintro r w6 ⟨rfl, hb⟩
      rw [← hn]
      clear hn
      have hM := Below.trans hb (Below.mono (more (Below.refl w6.heap.size w6) (.map #[] 0)) hb.size)
      have H6 : Kp (ON w A w3.heap.size S C w6.heap.size n m.ht.toNat m (fun _ => False) (fun _ => none) gs0 (fun _ => none) 0 (w6.alloc (.map #[] 0))) := ⟨⟨(H5.out.1.more hM).k, ⟨by rw [cntF_none]; exact H5.out.2.1.keep hM, fun e => e, fun e => e, .inl rfl⟩, KnIs.made w6 n m, fun _ _ h => absurd rfl h, (H5.out.1.more hM).a0, fun e => e, ⟨by have := H5.out.2.1.s.lt; have := hb.size; omega, by have := H5.out.2.1.c.lt; have := hb.size; omega, by have := H5.out.1.below.size; have := hb.size; omega⟩, by have h9 := (H5.out.1.more hM).below; rw [HAe.out] at h9; exact h9, ⟨by rw [HAe.out]; exact Nat.le_refl _, by have := H5.out.2.2.1; omega, Nat.le_trans H5.out.2.2.2 hM.size, HW0.out⟩, by have := H5.out.1.a0.lt; have := hb.size; omega⟩⟩
      clear hb hM H5
      have hmm := @run_makeMap Tryd.prog
      go_wp2_with fail
      clear hmm
      generalize w6.alloc (.map #[] 0) = W6 at *
      generalize w6.heap.size = M at *
      generalize w3.heap.size = B at *
      have HKF : Kp (2 ^ m.ht.toNat = n) := ⟨HN.out.1.symm⟩
      go_loopw [54] (fun c54 wr => ∃ (i : Nat) (P : Nat → Prop) (f : Nat → Option Value) (gl : GS) (kn : Nat → Option Value) (c : Nat), i ≤ len4 ∧ i ≤ 30 ∧ c ≤ i ∧ c54 = .int .i64 i ∧ Kp (ON w A B S C M n m.ht.toNat m P f gl kn c wr)) (fun c _ => len4 - (intOf c).toNat)
      case atStart => exact ⟨0, _, _, _, _, 0, by omega, by omega, by omega, rfl, H6⟩
      case round =>
        obtain ⟨i, P, f, gl, kn, c, hi1, hi2, hi3, rfl, G1⟩ := hrel
        clear H6
        by_cases hlt : (i : Int) < (len4 : Int)
        · obtain ⟨b, off, rfl, e2, e3⟩ := HA4.out.2.2 i (by have := HA4.out.1; omega)
          have hx := HA4.out.2.1 (z4.getD i 0) (by rw [List.getD_eq_getElem?_getD, List.getElem?_eq_getElem (by have := HA4.out.1; omega)]; exact List.getElem_mem _)
          obtain ⟨x, hxe⟩ : ∃ x, x = z4.getD i 0 := ⟨_, rfl⟩
          rw [← hxe] at e3 hx
          have yc : wr.cell? ⟨b, off + i, none⟩ = some (.int .i64 x) := (G1.out.below.cell (p := ⟨b, off + i, none⟩) e2).trans e3
          clear e2 e3 hxe
          have HX := Kp.mk hx
          clear hx
          by_cases h30 : (30 : Int) ≤ (i : Int)
          · go_wp2_with fail
            go_ret
            exact ⟨rfl, G1.out.below⟩
          · by_cases h7 : x.tmod 7 = 6
            · go_wp2_with fail
              clear yc
              refine (rootSp_any m B S C n m.ht.toNat P f gl wr G1.out.kon HOK.out G1.out.sg (by have := G1.out.bnd; omega) G1.out.bnd.2.2.1 HN.out.1 HN.out.2.1).mono ?_
              rintro r w7 ⟨f', gl', P', rfl, g1, g2, g3, g4, g5⟩
              have G2 := Kp.mk (G1.out.call g5 g1 (fun j hj _ => g2 j hj) g3 g4)
              have HCN : Kp ((cntF f' n : Int) = n) := ⟨by rw [cntF_all g2]⟩
              clear g1 g2 g3 g4 g5 G1
              go_wp2_with fail
              refine (made_any m B S C n f' gl' _ w7 HOK.out G2.out.sg.sp).mono ?_
              rintro r w8 ⟨rfl, rfl⟩
              rw [HCN.out]
              go_wp2_with fail
              exact ⟨⟨i + 1, _, _, _, _, c, by omega, by omega, by omega, by go_num, G2⟩, by simp [intOf]; omega⟩
            · obtain ⟨u, hu⟩ : ∃ u : Nat, IntKind.u64.wrap x = u := ⟨(IntKind.u64.wrap x).toNat, by rw [IntKind.wrap_u64]; omega⟩
              have hn9 := HN.out
              have hw1 : IntKind.u64.wrap (n : Int) = (n : Int) := IntWalk.u64_in _ (by omega)
              obtain ⟨q, hq⟩ : ∃ q, q = u % n := ⟨_, rfl⟩
              have hqn : q < n := by rw [hq]; exact Nat.mod_lt _ (by omega)
              have hq9 : ((u : Int)).tmod (n : Int) = (q : Int) := by rw [hq, Int.tmod_eq_emod_of_nonneg (by omega)]; rfl
              have hq8 : wrap64 (q : Int) = (q : Int) := by unfold wrap64; omega
              have hq7 : ¬ (n : Int) = 0 := by omega
              clear hq hn9
              go_wp2_with fail
              clear yc hu hw1 hq9 hq8 hq7
              refine (made_any m B S C n f gl _ wr HOK.out G1.out.sg.sp).mono ?_
              rintro r w7 ⟨rfl, rfl⟩
              have HQN := Kp.mk hqn
              clear hqn
              have y1 : w7.cell? ⟨A, 1, none⟩ = some (.int .i64 m.st) := G1.out.a0.cell 1
              go_wp2_with fail
              clear y1
              have hst : ((m.st.toNat : Nat) : Int) = m.st := by have := HOK.out.s; omega
              have hE := elementG_any m B S C n m.ht.toNat P f gl q m.st.toNat w7 G1.out.kon HOK.out G1.out.sg (by have := G1.out.bnd; omega) G1.out.bnd.2.2.1 HQN.out HN.out.2.2.1 (by omega)
              rw [hst] at hE
              refine hE.mono ?_
              clear hE hst
              rintro r w8 ⟨f', rfl, g1, g2, g3, g4, g5, g6, g7⟩
              have G2 := Kp.mk (G1.out.call g7 g1 (fun j _ => g4 j) (fun _ h => .inl h) g6)
              have HF1 : Kp (f' q ≠ none ∧ (f q ≠ none → f' = f) ∧ cntF f' n ≤ cntF f n + 1) := ⟨g2, g3, g5⟩
              have HSUB := Kp.mk (G1.out.sub q HQN.out)
              clear g1 g2 g3 g4 g5 g6 g7 G1
              have HZ0 : Kp ((elR m q m.st.toNat).length = 16 ∧ Bytes (elR m q m.st.toNat)) := ⟨elR_len m q _, elR_bytes m q _⟩
              obtain ⟨x1, hx1⟩ : ∃ x1, elR m q m.st.toNat = x1 := ⟨_, rfl⟩
              have HXe := Kp.mk hx1
              rw [hx1] at HZ0
              have HZ : Kp (x1.length = 16) := ⟨HZ0.out.1⟩
              have HZB : Kp (Bytes x1) := ⟨HZ0.out.2⟩
              clear HZ0
              try rw [hx1]
              clear hx1
              have hb6 : Below w8.heap.size w8 ((w8.alloc z50).setRow w8.heap.size (kv .u8 x1).toArray) := Below.row (more (Below.refl _ _) z50) (Nat.le_refl _) _
              have G3 := Kp.mk (G2.out.more hb6)
              have HR3 : Kp (Row ((w8.alloc z50).setRow w8.heap.size (kv .u8 x1).toArray) w8.heap.size 43 .u8 x1) := ⟨Row.setRow (k := .u8) (l := fill 16 []) (Blk.new w8 z50) _⟩
              have HS3 : Kp (((w8.alloc z50).setRow w8.heap.size (kv .u8 x1).toArray).heap.size = w8.heap.size + 1) := ⟨by simp [World.setRow]⟩
              have hlook := G3.out.map.look HQN.out HN.out.2.2.1
              rw [HXe.out] at hlook
              clear hb6 G2
              cases hkn : kn q with
              | none =>
                rw [hkn] at hlook
                simp only [Option.isSome_none, Bool.false_eq_true, if_false] at hlook
                have hb7 : Below (w8.heap.size + 1) ((w8.alloc z50).setRow w8.heap.size (kv .u8 x1).toArray) ((((w8.alloc z50).setRow w8.heap.size (kv .u8 x1).toArray).alloc z50).setRow (w8.heap.size + 1) (kv .u8 zeroS).toArray) := Below.row (by rw [← HS3.out]; exact more (Below.refl _ _) z50) (Nat.le_refl _) _
                have G4 := Kp.mk (G3.out.more (by rw [HS3.out]; exact hb7))
                have HR4 := Kp.mk (HR3.out.keep (by rw [HS3.out]; exact hb7))
                clear hb7
                have HLK := Kp.mk hlook
                clear hlook
                go_wp2_with (first
                  | (at_lookup; refine wpList_look rfl 41 (.tmp 89) (.tmp 90) rfl rfl rfl HLK.out ?_)
                  | (refine wpList_store_row rfl 43 (.tmp 19) (.tmp 84) rfl w8.heap.size (kv .u8 x1).toArray rfl rfl 43 _ (Blk.new w8 z50) (cells50 HZ.out) (size50 HZ.out) (kv_all _ _) ?_)
                  | (refine wpList_store_row rfl 43 (.tmp 21) (.tmp 92) rfl (w8.heap.size + 1) (kv .u8 zeroS).toArray rfl rfl 43 _ (Blk.newAt _ HS3.out.symm) (cells50 (l := zeroS) rfl) (size50 (l := zeroS) rfl) (kv_all _ _) ?_))
                refine calls_world (fun W => ON w A B S C M n m.ht.toNat m P f' gl kn c W ∧ Row W w8.heap.size 43 .u8 x1) ⟨G4.out, HR4.out⟩ ?_
                clear G4 HR4 HLK
                rintro W9 ⟨a1, a2⟩
                have G4 := Kp.mk a1
                have HR4 := Kp.mk a2
                clear a1 a2
                refine (made_any m B S C n f' gl _ _ HOK.out G4.out.sg.sp).mono ?_
                rintro r w9 ⟨rfl, rfl⟩
                have h64 := HN.out.2.2.1
                have hgt : ¬ ((cntF f n : Int) + 1 < (cntF f' n : Int)) := by have := HF1.out.2.2; omega
                have hcl : cntF f n ≤ 64 := Nat.le_trans (cntF_le f n) h64
                obtain ⟨w10, hrun, hk', hg⟩ := G4.out.map.upd HQN.out h64 (by omega)
                rw [HXe.out] at hrun
                have G5 := Kp.mk (G4.out.upd hg hk' HF1.out.1)
                clear hk' hg
                go_wp2_with (refine wpList_load_row rfl 43 (.tmp 19) rfl w8.heap.size rfl 43 (kv .u8 x1).toArray (0, 0) _ HR4.out Tryd.underlying43 rfl (cells50 HZ.out) ?_)
                clear hrun hgt hcl
                refine (made_any m B S C n f' gl _ w10 HOK.out G5.out.sg.sp).mono ?_
                rintro r w11 ⟨rfl, rfl⟩
                have hlen := fun ty => G5.out.map.len ty
                have hl1 : ¬ ((cntF f' n : Int) < (cntF (updF kn q (.bool true)) n : Int)) := by have := cntF_mono (n := n) (f := f') (g := updF kn q (.bool true)) G5.out.sub; omega
                have hl2 : ¬ ((n : Int) < (cntF f' n : Int)) := by have := cntF_le f' n; omega
                go_wp2_with fail
                refine (made_any m B S C n f' gl _ w11 HOK.out G5.out.sg.sp).mono ?_
                rintro r w12 ⟨rfl, rfl⟩
                go_wp2_with fail
                exact ⟨⟨i + 1, _, _, _, _, c + 1, by omega, by omega, by omega, by go_num, G5⟩, by simp [intOf]; omega⟩
              | some v9 =>
                have hff := HF1.out.2.1 (HSUB.out (by rw [hkn]; simp))
                have HFF : Kp ((cntF f' n : Int) = (cntF f n : Int)) := ⟨by rw [hff]⟩
                clear hff
                rw [hkn] at hlook
                simp only [Option.isSome_some, if_true] at hlook
                have hb7 : Below (w8.heap.size + 1) ((w8.alloc z50).setRow w8.heap.size (kv .u8 x1).toArray) ((((w8.alloc z50).setRow w8.heap.size (kv .u8 x1).toArray).alloc z50).setRow (w8.heap.size + 1) (kv .u8 x1).toArray) := Below.row (by rw [← HS3.out]; exact more (Below.refl _ _) z50) (Nat.le_refl _) _
                have G4 := Kp.mk (G3.out.more (by rw [HS3.out]; exact hb7))
                have HR4 := Kp.mk (HR3.out.keep (by rw [HS3.out]; exact hb7))
                have HR5 : Kp (Row ((((w8.alloc z50).setRow w8.heap.size (kv .u8 x1).toArray).alloc z50).setRow (w8.heap.size + 1) (kv .u8 x1).toArray) (w8.heap.size + 1) 43 .u8 x1) := ⟨Row.setRow (k := .u8) (l := fill 16 []) (Blk.newAt _ HS3.out.symm) _⟩
                clear hb7
                have HLK := Kp.mk hlook
                clear hlook
                have heq := fun w => eqIn50 HZB.out HZ.out w
                go_wp2_with (first
                  | (at_lookup; refine wpList_look rfl 41 (.tmp 89) (.tmp 90) rfl rfl rfl HLK.out ?_)
                  | (refine wpList_store_row rfl 43 (.tmp 19) (.tmp 84) rfl w8.heap.size (kv .u8 x1).toArray rfl rfl 43 _ (Blk.new w8 z50) (cells50 HZ.out) (size50 HZ.out) (kv_all _ _) ?_)
                  | (refine wpList_store_row rfl 43 (.tmp 21) (.tmp 92) rfl (w8.heap.size + 1) (kv .u8 x1).toArray rfl rfl 43 _ (Blk.newAt _ HS3.out.symm) (cells50 HZ.out) (size50 HZ.out) (kv_all _ _) ?_)
                  | (refine wpList_load_row rfl 43 (.tmp 19) rfl w8.heap.size rfl 43 (kv .u8 x1).toArray (0, 0) _ HR4.out Tryd.underlying43 rfl (cells50 HZ.out) ?_)
                  | (refine wpList_load_row rfl 43 (.tmp 21) rfl (w8.heap.size + 1) rfl 43 (kv .u8 x1).toArray (0, 0) _ HR5.out Tryd.underlying43 rfl (cells50 HZ.out) ?_))
                clear heq
                refine calls_world (fun W => ON w A B S C M n m.ht.toNat m P f' gl kn c W ∧ Row W w8.heap.size 43 .u8 x1) ⟨G4.out, HR4.out⟩ ?_
                clear G4 HR4 HR5 HLK
                rintro W8 ⟨a1, a2⟩
                have G4 := Kp.mk a1
                have HR4 := Kp.mk a2
                clear a1 a2
                refine (made_any m B S C n f' gl _ _ HOK.out G4.out.sg.sp).mono ?_
                rintro r W9 ⟨rfl, rfl⟩
                rw [HFF.out]
                go_wp2_with fail
                refine (made_any m B S C n f' gl _ _ HOK.out G4.out.sg.sp).mono ?_
                rintro r w9 ⟨rfl, rfl⟩
                have h64 := HN.out.2.2.1
                have hgt : ¬ ((cntF f n : Int) + 1 < (cntF f' n : Int)) := by have := HF1.out.2.2; omega
                have hcl : cntF f n ≤ 64 := Nat.le_trans (cntF_le f n) h64
                obtain ⟨w10, hrun, hk', hg⟩ := G4.out.map.upd HQN.out h64 (by omega)
                rw [HXe.out] at hrun
                have G5 := Kp.mk (G4.out.upd hg hk' HF1.out.1)
                clear hk' hg
                go_wp2_with (refine wpList_load_row rfl 43 (.tmp 19) rfl w8.heap.size rfl 43 (kv .u8 x1).toArray (0, 0) _ HR4.out Tryd.underlying43 rfl (cells50 HZ.out) ?_)
                clear hrun hgt hcl
                refine (made_any m B S C n f' gl _ w10 HOK.out G5.out.sg.sp).mono ?_
                rintro r w11 ⟨rfl, rfl⟩
                have hlen := fun ty => G5.out.map.len ty
                have hl1 : ¬ ((cntF f' n : Int) < (cntF (updF kn q (.bool true)) n : Int)) := by have := cntF_mono (n := n) (f := f') (g := updF kn q (.bool true)) G5.out.sub; omega
                have hl2 : ¬ ((n : Int) < (cntF f' n : Int)) := by have := cntF_le f' n; omega
                go_wp2_with fail
                refine (made_any m B S C n f' gl _ w11 HOK.out G5.out.sg.sp).mono ?_
                rintro r w12 ⟨rfl, rfl⟩
                go_wp2_with fail
                exact ⟨⟨i + 1, _, _, _, _, c + 1, by omega, by omega, by omega, by go_num, G5⟩, by simp [intOf]; omega⟩
        · go_wp2_with fail
          go_ret
          exact ⟨rfl, G1.out.below⟩
theorem springOnce_walk (x0_0 x0_1 x0_2 : Int) (x1 : List Int) (x2 x3 : Int) (a4 : Option Addr) (len4 cap4 : Nat) (z4 : List Int) (w : World) (_w0_0 : (Lit.int .i64 x0_0).wf = true) (_w0_1 : (Lit.int .i64 x0_1).wf = true) (_w0_2 : (Lit.int .i64 x0_2).wf = true) (l1 : x1.length = 32) (b1 : Bytes x1) (_w2 : (Lit.int .i64 x2).wf = true) (w3 : (Lit.int .u32 x3).wf = true) (w4 : z4.length = len4 ∧ HoldsN w a4 z4) (hk : KonIs w) :
    Calls Tryd.prog 4 #[.agg #[.int .i64 x0_0, .int .i64 x0_1, .int .i64 x0_2], .agg (bv x1).toArray, .int .i64 x2, .int .u32 x3, .slice a4 len4 cap4] w fun r w' => r = .returned (.bool true) ∧ Below w.heap.size w w' := by
  have h3 : 0 ≤ x3 := by
    have := w3
    simp [Lit.wf] at this
    have e : IntKind.u32.min = 0 := by decide
    omega
  exact springOnce_any ⟨x0_0, x0_1, x0_2, x2, x3, x1⟩ w hk l1 b1 h3 a4 len4 cap4 z4 w4
end Go.Proofs.YtibbinenhmiclaaDoor

namespace Go.Proofs.YtibbinenhmiclaaDoor
open Go.ChangeShapes Go.WideShapes Go.ChangeAt Go.RowKit

abbrev laidL : List (String × DataW Unit) := Rows.springNilRow.laid
theorem gKon : Tryd.prog.globalNamed ((Rows.springNilRow.laid.map (·.1)).headD default) = some 0 := by kernel_rfl
theorem tKon : (Tryd.prog.globals[0]?).map (·.type) = some 167 := by kernel_rfl
set_option maxRecDepth 100000 in
theorem laid_kon : (Rows.laid_fingerpost_sha_constants : DataW Unit) = .agg (kon.map fun k => .lit (.int .u32 k)) := rfl
set_option maxRecDepth 100000 in
theorem door_met (os : Os) (args : Array Value) : laidMetH Tryd.prog laidL ((World.doorLaid Tryd.prog 400 os).forCall (fun _ _ => 0) ⟨#[], args, []⟩).memory :=
  laidMetH_of_parts3 (fuel := 8) (laidMet_of_run' 8 (by kernel_rfl) (by kernel_rfl)) (by kernel_rfl) (by kernel_rfl)
theorem kon_of_laid {W : World} (h : laidMetH Tryd.prog laidL W) : KonIs W := by
  rw [MakeChecks.laidMetH_plain _ _ _ (by kernel_rfl)] at h
  obtain ⟨ps, ⟨g0, t0, cs0, f0, p0, q0, hg0, ht0, hv0, hd0, _, _⟩, _⟩ := h
  obtain rfl := Option.some.inj (gKon.symm.trans hg0)
  obtain rfl := Option.some.inj (tKon.symm.trans ht0)
  obtain ⟨xs, m, rfl, hx, hlen, hn, hel⟩ := DataW.trod_array Tryd.underlying167 hd0
  have c67 : Tryd.prog.cellsOf 25 = 1 := by kernel_rfl
  simp only [Prod.mk.injEq] at hx
  have hx1 := hx.1
  rw [laid_kon] at hx1
  simp only [DataW.agg.injEq] at hx1
  intro i hi
  have he := hel i hi
  rw [c67, Nat.mul_one] at he
  have hix : i < xs.length := by omega
  rw [List.getElem?_eq_getElem hix] at he
  obtain ⟨k, e1, e2, _⟩ := DataW.trod_int Tryd.underlying25 he
  have hk : (xs.map (·.1))[i]? = some (DataW.lit (.int .u32 k)) := by
    rw [List.getElem?_map, List.getElem?_eq_getElem hix]
    exact congrArg some (congrArg Prod.fst e2)
  rw [← hx1, List.getElem?_map, List.getElem?_eq_getElem (by rw [kon_len]; exact hi)] at hk
  simp at hk
  rw [World.var?_cell hg0 hv0 i]
  have h3 : cs0.toList[i]? = some (.int .u32 k) := by
    have h4 := congrArg (fun l : List Value => l[0]?) e1
    simp only [List.getElem?_take, List.getElem?_drop, Nat.lt_one_iff, if_true, Nat.add_zero] at h4
    simpa using h4
  rw [Array.getElem?_toList] at h3
  rw [h3, ← hk, List.getD_eq_getElem?_getD, List.getElem?_eq_getElem (by rw [kon_len]; exact hi)]
  rfl
end Go.Proofs.YtibbinenhmiclaaDoor
