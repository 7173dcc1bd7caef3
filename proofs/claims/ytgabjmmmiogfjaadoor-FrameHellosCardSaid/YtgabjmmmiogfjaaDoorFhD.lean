/-
  What a Hello's bytes are; frame.many; GetHello's state, of both.
-/
import Derived.Test.YtgabjmmmiogfjaaDoorFhC
import Derived.Deep.AppendLies
namespace Go.Proofs.YtgabjmmmiogfjaaDoor
open Go.RowKit

def gHd (B : List Int) : Int := numOf (rawP B 0 0 1)
def gE1 (B : List Int) : Int := rawE B 0 0 1
def gA1 (B : List Int) : Nat := rawA B 0 0 1
def gN (B : List Int) : Int := numOf (rawP B (gA1 B) (gE1 B) 1)
def gE2 (B : List Int) : Int := rawE B (gA1 B) (gE1 B) 1
def gA2 (B : List Int) : Nat := rawA B (gA1 B) (gE1 B) 1
def gE3 (B : List Int) : Int := if 8 < gN B then failE (gE2 B) 8 else gE2 B
def gK (B : List Int) : Nat := if 8 < gN B then 0 else (gN B).toNat
/-- The place and the error behind i numbers. -/
def hS (B : List Int) : Nat → Nat × Int
  | 0 => (gA2 B, gE3 B)
  | i + 1 => (rawA B (hS B i).1 (hS B i).2 4, rawE B (hS B i).1 (hS B i).2 4)
def hX (B : List Int) (i : Nat) : Int := numOf (rawP B (hS B i).1 (hS B i).2 4)
def hW (B : List Int) (n : Nat) : List Int := (List.range n).map (hX B)
def gEnd (B : List Int) : Int := if 0 < rleft B (hS B (gK B)).1 (hS B (gK B)).2 then 10 else (hS B (gK B)).2
def gX (B : List Int) : Int := if gEnd B = 0 then gHd B else 0
def gW (B : List Int) : List Int := if gEnd B = 0 then hW B (gK B) else []
def HelloPost (B : List Int) (w : World) (r : Ending) (w' : World) : Prop :=
  ∃ a n c, r = .returned (.tuple #[.agg #[.int .u8 (gX B), .slice a n c], .int .i64 (gEnd B)]) ∧ HoldsU w' w'.heap.size (.slice a n c) (gW B) ∧ Below w.heap.size w w'
theorem hW_len (B : List Int) (n : Nat) : (hW B n).length = n := by simp [hW]
theorem hW_succ (B : List Int) (n : Nat) : hW B (n + 1) = hW B n ++ [hX B n] := by simp [hW, List.range_succ]
theorem one_lt' {B : List Int} (hb : Bytes B) (a : Nat) (e : Int) : 0 ≤ numOf (rawP B a e 1) ∧ numOf (rawP B a e 1) ≤ 255 := numOf_one (rawP_len _ _ _ _) (rawP_bytes hb _ _ _)
theorem numOf_four {l : List Int} (h : l.length ≤ 4) (hb : Bytes l) : 0 ≤ numOf l ∧ numOf l ≤ 4294967295 := by
  match l, h with
  | [], _ => decide
  | [a], _ =>
    have := hb a (by simp)
    simp only [numOf, List.foldl_cons, List.foldl_nil]
    omega
  | [a, b], _ =>
    have := hb a (by simp)
    have := hb b (by simp)
    simp only [numOf, List.foldl_cons, List.foldl_nil]
    omega
  | [a, b, c], _ =>
    have := hb a (by simp)
    have := hb b (by simp)
    have := hb c (by simp)
    simp only [numOf, List.foldl_cons, List.foldl_nil]
    omega
  | [a, b, c, d], _ =>
    have := hb a (by simp)
    have := hb b (by simp)
    have := hb c (by simp)
    have := hb d (by simp)
    simp only [numOf, List.foldl_cons, List.foldl_nil]
    omega
theorem hX_lt {B : List Int} (hb : Bytes B) (i : Nat) : 0 ≤ hX B i ∧ hX B i ≤ 4294967295 := numOf_four (rawP_len _ _ _ _) (rawP_bytes hb _ _ _)
theorem gN_lt {B : List Int} (hb : Bytes B) : 0 ≤ gN B ∧ gN B ≤ 255 := one_lt' hb _ _
theorem gHd_lt {B : List Int} (hb : Bytes B) : 0 ≤ gHd B ∧ gHd B ≤ 255 := one_lt' hb _ _
theorem gK_le {B : List Int} (hb : Bytes B) : gK B ≤ 8 := by
  have := gN_lt hb
  unfold gK
  split <;> omega
theorem hW_u32 {B : List Int} (hb : Bytes B) (n : Nat) : U32s (hW B n) := fun x hx => by
  obtain ⟨i, _, rfl⟩ := List.mem_map.1 hx
  exact hX_lt hb i
/-- Behind an error all stays. -/
theorem hS_stay {B : List Int} {i : Nat} (h : (hS B i).2 ≠ 0) : ∀ k, hS B (i + k) = hS B i := by
  intro k
  induction k with
  | zero => rfl
  | succ k ih =>
    rw [← Nat.add_assoc]
    show (rawA B (hS B (i + k)).1 (hS B (i + k)).2 4, rawE B (hS B (i + k)).1 (hS B (i + k)).2 4) = _
    rw [ih]
    unfold rawA rawE
    rw [if_neg (fun e => h e.1), if_neg (fun e => h e.1)]
theorem end_is {l B : List Int} {e : Int} {a : Nat} (hr : Rel l e B a) : endE l e = if 0 < rleft B a e then 10 else e := by
  unfold endE
  rw [hr.left]
  by_cases h : 0 < rleft B a e
  · rw [if_pos h, if_pos h]
    have : e = 0 := by
      false_or_by_contra
      rename_i hne
      unfold rleft at h
      rw [if_neg hne] at h
      omega
    rw [this]
    rfl
  · rw [if_neg h, if_neg h]
theorem results_row_tmp' {P : Program} {fn : Func} {p q : Tmp} {ty : TypeId} (h : fn.results = #[.cell p ty, .tmp q]) (tmps : Array Value) (w : World) (g : Nat) (t : TypeId) (cs : Array Value) (fr : Nat × Nat) (d : TypeDesc) (u : Value)
    (hp : tmps.getD p undef = .pointer (some ⟨g, 0, none⟩)) (hq : tmps.getD q undef = u) (hg : w.heap[g]? = some (.cells cs t fr))
    (hu : P.underlying ty = some d) (hd : (match d with | .struct _ | .array _ _ => true | _ => false) = true) (hi : (P.info? ty).map (·.size) = some cs.size) :
    (results fn tmps).run P w = .ok (.tuple #[.agg cs, u]) w := by
  have hp' : tmps[p]?.getD undef = .pointer (some ⟨g, 0, none⟩) := by simpa using hp
  have hq' : tmps[q]?.getD undef = u := by simpa using hq
  simp [results, h, hp', hq', asAddr, run_loadVar_row w g t ty cs fr d hg hu hd hi]
theorem info71s : (Tryd.prog.info? 71).map (·.size) = some 2 := by kernel_rfl
theorem info69s : (Tryd.prog.info? 69).map (·.size) = some 2 := by kernel_rfl
theorem info98' : (Tryd.prog.info? 98).map (fun i => (i.zero, i.size, i.bytes)) = some (some (.int .u32 0), 1, 4) := by kernel_rfl
theorem h_one (n : Int) (a : Option Addr) (m c : Nat) : (#[Value.int .u8 n, .slice a m c] : Array Value).all (·.oneCell') = true := by simp [Value.oneCell']
abbrev HZ (t : TypeId) : Obj := .cells #[.int .u8 0, .slice none 0 0] t
set_option maxHeartbeats 1600000 in
theorem fmany_any (I : Nat) (l B : List Int) (at' : Nat) (e : Int) (w : World) (h : InIs w I I l e) (hr : Rel l e B at') (hb : Bytes B) :
    Calls Tryd.prog 62 #[.pointer (some ⟨I, 0, none⟩)] w fun r w' => r = .returned (.int .i64 (if 8 < numOf (rawP B at' e 1) then 0 else numOf (rawP B at' e 1))) ∧
      ∃ l', InStep I I l' (if 8 < numOf (rawP B at' e 1) then failE (rawE B at' e 1) 8 else rawE B at' e 1) w w' ∧ Rel l' (if 8 < numOf (rawP B at' e 1) then failE (rawE B at' e 1) 8 else rawE B at' e 1) B (rawA B at' e 1) := by
  have H := Kp.mk h
  have R := Kp.mk hr
  have hn := one_lt' hb at' e
  obtain ⟨n, hne⟩ : ∃ n, n = numOf (rawP B at' e 1) := ⟨_, rfl⟩
  rw [← hne] at hn ⊢
  have HNE := Kp.mk hne
  have HN := Kp.mk hn
  have hw : IntKind.i64.wrap n = n := IntWalk.i64_in _ (by omega)
  clear h hr hb hne hn
  by_cases hc : 8 < n
  · simp only [if_pos hc]
    go_enter Tryd.func62, Tryd.ntmps62
    go_wp2_with fail
    refine (u8_any I I l e _ H.out).mono ?_
    rintro r w1 ⟨rfl, s1⟩
    obtain ⟨q1, q2, q3⟩ := R.out.next 1
    rw [q1, ← HNE.out]
    rw [q2] at s1
    have S1 := Kp.mk s1
    have R1 := Kp.mk q3
    clear s1 q1 q2 q3
    go_wp2_with fail
    refine (fail_any I I _ _ 8 w1 S1.out.is).mono ?_
    rintro r w2 ⟨rfl, s2⟩
    have S2 := Kp.mk (S1.out.trans s2)
    have R2 := Kp.mk (R1.out.fail 8)
    clear s2
    go_wp2_with fail
    go_ret
    exact ⟨rfl, _, S2.out, R2.out⟩
  · simp only [if_neg hc]
    go_enter Tryd.func62, Tryd.ntmps62
    go_wp2_with fail
    refine (u8_any I I l e _ H.out).mono ?_
    rintro r w1 ⟨rfl, s1⟩
    obtain ⟨q1, q2, q3⟩ := R.out.next 1
    rw [q1, ← HNE.out]
    rw [q2] at s1
    have S1 := Kp.mk s1
    have R1 := Kp.mk q3
    clear s1 q1 q2 q3
    go_wp2_with fail
    go_ret
    exact ⟨rfl, _, S1.out, R1.out⟩
/-- GetHello, on its way. -/
structure GHSt (w : World) (R I H : Nat) (hd : Int) (vo : Value) (us : List Int) (l : List Int) (e : Int) (W : World) : Prop where
  i : InIs W I I l e
  r : Blk W R (HZ 71)
  h : Blk W H (.cells #[.int .u8 hd, vo] 71)
  o : W.ownsRow (H + 1) 98 1 vo us.length (uv us)
  u : U32s us
  below : Below R w W
  ri : R < I
  ih : I < H
theorem GHSt.drew {w W : World} {R I H : Nat} {hd : Int} {vo : Value} {us : List Int} {l : List Int} {e : Int} (h : GHSt w R I H hd vo us l e W) : GHSt w R I H hd vo us l e W.drew :=
  ⟨h.i.drew, h.r.keep (Below.refl _ _).drew, h.h.keep (Below.refl _ _).drew, ownsRow_below h.o (Below.refl _ _).drew, h.u, h.below.drew, h.ri, h.ih⟩
theorem GHSt.read {w W W' : World} {R I H : Nat} {hd : Int} {vo : Value} {us : List Int} {l l' : List Int} {e e' : Int} (h : GHSt w R I H hd vo us l e W) (hs : InStep I I l' e' W W') : GHSt w R I H hd vo us l' e' W' := by
  obtain ⟨h1, o, ho⟩ := hs
  have := h.ri
  have := h.ih
  exact ⟨h1, ho.keep h.r (by omega), ho.keep h.h (by omega), ownsRow_turn h.o ho (by omega), h.u, h.below.trans (ho.below (by omega) (by have := h.r.lt; omega)), h.ri, h.ih⟩
/-- A number more. -/
theorem GHSt.app {w W w3 : World} {R I H : Nat} {hd x : Int} {vo v' : Value} {us : List Int} {l : List Int} {e : Int} (h : GHSt w R I H hd vo us l e W) (hx : 0 ≤ x ∧ x ≤ 4294967295)
    (ho : w3.ownsRow (H + 1) 98 1 v' (us.length + 1) (uv us ++ [.int .u32 x])) (hg : (W.alloc (.cells #[.int .u32 x] 98)).grownBy w3 vo.ownBlock) : GHSt w R I H hd v' (us ++ [x]) l e (w3.setCell ⟨H, 1, none⟩ v') := by
  have hri := h.ri
  have hih := h.ih
  have hl := h.h.lt
  have hb : Below (H + 1) W w3 := below_row_grown ((more (Below.refl _ _) _).mono (by omega)) (by simp; omega) (ownsRow_below h.o (more (Below.refl _ _) _)) hg
  have hh := h.h.upto hb (by omega)
  have hT : Turn H (.cells #[.int .u8 hd, v'] 71) w3 (w3.setCell ⟨H, 1, none⟩ v') := ((Turn.same hh).set 1 v').as rfl
  have hr := h.r.upto hb (by omega)
  refine ⟨(h.i.upto hb (by omega)).turn hT (by omega) (by omega), hT.keep hr (by omega), hT.blk, ?_, h.u.append (fun y hy => by simp at hy; subst hy; exact hx), (h.below.trans (hb.mono (by omega))).trans (hT.below (by omega) (by have := hr.lt; omega)), hri, hih⟩
  have h5 : w3.ownsRow (H + 1) 98 1 v' (us ++ [x]).length (uv (us ++ [x])) := by simpa [uv] using ho
  exact ownsRow_setCell_below h5 (a := ⟨H, 1, none⟩) (by show H < _; omega) v'
/-- GetHello, on its way. -/
structure RGSt (w : World) (R I H : Nat) (hd : Int) (vo : Value) (us : List Int) (M : Nat) (B : List Int) (at' : Nat) (e : Int) (W : World) : Prop where
  i : RefIs W M I B at' e
  r : Blk W R (HZ 69)
  h : Blk W H (.cells #[.int .u8 hd, vo] 69)
  o : W.ownsRow (H + 1) 98 1 vo us.length (uv us)
  u : U32s us
  below : Below R w W
  ri : R < I
  ih : I < H
theorem RGSt.drew {w W : World} {R I H : Nat} {hd : Int} {vo : Value} {us : List Int} {M : Nat} {B : List Int} {at' : Nat} {e : Int} (h : RGSt w R I H hd vo us M B at' e W) : RGSt w R I H hd vo us M B at' e W.drew :=
  ⟨h.i.drew, h.r.keep (Below.refl _ _).drew, h.h.keep (Below.refl _ _).drew, ownsRow_below h.o (Below.refl _ _).drew, h.u, h.below.drew, h.ri, h.ih⟩
theorem RGSt.read {w W W' : World} {R I H : Nat} {hd : Int} {vo : Value} {us : List Int} {M : Nat} {B : List Int} {at' at2 : Nat} {e e2 : Int} (h : RGSt w R I H hd vo us M B at' e W) (hs : RefStep M I B at2 e2 W W') : RGSt w R I H hd vo us M B at2 e2 W' := by
  obtain ⟨h1, o, ho⟩ := hs
  have := h.ri
  have := h.ih
  exact ⟨h1, ho.keep h.r (by omega), ho.keep h.h (by omega), ownsRow_turn h.o ho (by omega), h.u, h.below.trans (ho.below (by omega) (by have := h.r.lt; omega)), h.ri, h.ih⟩
/-- A number more. -/
theorem RGSt.app {w W w3 : World} {R I H : Nat} {hd x : Int} {vo v' : Value} {us : List Int} {M : Nat} {B : List Int} {at' : Nat} {e : Int} (h : RGSt w R I H hd vo us M B at' e W) (hx : 0 ≤ x ∧ x ≤ 4294967295)
    (ho : w3.ownsRow (H + 1) 98 1 v' (us.length + 1) (uv us ++ [.int .u32 x])) (hg : (W.alloc (.cells #[.int .u32 x] 98)).grownBy w3 vo.ownBlock) : RGSt w R I H hd v' (us ++ [x]) M B at' e (w3.setCell ⟨H, 1, none⟩ v') := by
  have hri := h.ri
  have hih := h.ih
  have hl := h.h.lt
  have hb : Below (H + 1) W w3 := below_row_grown ((more (Below.refl _ _) _).mono (by omega)) (by simp; omega) (ownsRow_below h.o (more (Below.refl _ _) _)) hg
  have hh := h.h.upto hb (by omega)
  have hT : Turn H (.cells #[.int .u8 hd, v'] 69) w3 (w3.setCell ⟨H, 1, none⟩ v') := ((Turn.same hh).set 1 v').as rfl
  have hr := h.r.upto hb (by omega)
  refine ⟨(h.i.upto hb (by omega)).turn hT (by have := h.i.le; omega) (by omega), hT.keep hr (by omega), hT.blk, ?_, h.u.append (fun y hy => by simp at hy; subst hy; exact hx), (h.below.trans (hb.mono (by omega))).trans (hT.below (by omega) (by have := hr.lt; omega)), hri, hih⟩
  have h5 : w3.ownsRow (H + 1) 98 1 v' (us ++ [x]).length (uv (us ++ [x])) := by simpa [uv] using ho
  exact ownsRow_setCell_below h5 (a := ⟨H, 1, none⟩) (by show H < _; omega) v'
end Go.Proofs.YtgabjmmmiogfjaaDoor
