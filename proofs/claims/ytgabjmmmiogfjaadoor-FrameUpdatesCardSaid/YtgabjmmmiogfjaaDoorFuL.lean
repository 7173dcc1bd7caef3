/-
  What an update's bytes are; rows of entries of the call's own.
-/
import Derived.Test.YtgabjmmmiogfjaaDoorFuK
import Derived.Deep.AppendLies
namespace Go.Proofs.YtgabjmmmiogfjaaDoor
open Go.RowKit

def uFull (B : List Int) : Int := numOf (rawP B 0 0 1)
def us1 (B : List Int) : Nat × Int := ((stp B 1 (0, 0)).1, if 1 < uFull B then failE (stp B 1 (0, 0)).2 10 else (stp B 1 (0, 0)).2)
def uN (B : List Int) : Int := numOf (rawP B (us1 B).1 (us1 B).2 1)
def us2 (B : List Int) : Nat × Int := stp B 1 (us1 B)
def us3 (B : List Int) : Nat × Int := ((us2 B).1, if 8 < uN B then failE (us2 B).2 8 else (us2 B).2)
def uK (B : List Int) : Nat := if 8 < uN B then 0 else (uN B).toNat
/-- Whether what stands there may be an entry, and stands behind last. -/
def uFol (B : List Int) (last : Int) (s : Nat × Int) : Bool := decide ((0 ≤ nD B s ∧ nD B s < 8) ∧ last < nD B s) && krB (nE B s) (nS B s) (nM B s)
/-- The place, the error and the last destination behind i entries. -/
def uT (B : List Int) : Nat → (Nat × Int) × Int
  | 0 => (us3 B, -1)
  | i + 1 => (((gs7 B (uT B i).1).1, if uFol B (uT B i).2 (uT B i).1 = true then (gs7 B (uT B i).1).2 else failE (gs7 B (uT B i).1).2 10), nD B (uT B i).1)
def uEnd (B : List Int) : Int := if 0 < rleft B (uT B (uK B)).1.1 (uT B (uK B)).1.2 then 10 else (uT B (uK B)).1.2
theorem rsumsE_bad {B : List Int} {a : Nat} {e most : Int} (h : e ≠ 0) : rsumsE B a e most = e := by
  have h1 : rawE B a e 1 = e := by unfold rawE; rw [if_neg (fun x => h x.1)]
  unfold rsumsE
  rw [h1, if_pos h]
theorem rsums_few {B : List Int} {a : Nat} {e : Int} {most : Nat} (h : rsumsE B a e most = 0) : (rsumsP B a e most).length ≤ most * 16 := by
  have h0 := h
  unfold rsumsE at h
  by_cases h1 : rawE B a e 1 ≠ 0
  · rw [if_pos h1] at h
    exact absurd h h1
  · rw [if_neg h1] at h
    by_cases h2 : overF most (cnt1 B a e) = true
    · rw [if_pos h2] at h
      exact absurd h (by decide)
    · unfold rsumsP
      rw [if_pos h0, List.length_take, List.length_drop]
      have h3 : cnt1 B a e ≤ most := by
        unfold overF at h2
        simp at h2
        split at h2 <;> omega
      have := Nat.mul_le_mul_right 16 h3
      omega
theorem gs7_few {B : List Int} {s : Nat × Int} (h : (gs7 B s).2 = 0) : (nW B s).length ≤ 48 ∧ (nP B s).length ≤ 96 := by
  have h6 : (gs6 B s).2 = 0 := by
    false_or_by_contra
    rename_i hne
    have : (gs7 B s).2 = (gs6 B s).2 := rsumsE_bad hne
    omega
  exact ⟨rsums_few (most := 3) h6, rsums_few (most := 6) h⟩
/-- What follows by the program follows by the bytes, where it matters. -/
theorem fol_same {B : List Int} {s : Nat × Int} {last : Int} {x : EV} (hx : x.d = nD B s ∧ x.e = nE B s ∧ x.s = nS B s ∧ x.m = nM B s) (hw : (nW B s).length = x.wn * 16) (hp : (nP B s).length = x.pn * 16) :
    (if folB last x = true then (gs7 B s).2 else failE (gs7 B s).2 10) = if uFol B last s = true then (gs7 B s).2 else failE (gs7 B s).2 10 := by
  by_cases h0 : (gs7 B s).2 = 0
  · obtain ⟨h1, h2⟩ := gs7_few h0
    have : folB last x = uFol B last s := by
      unfold folB uFol
      rw [hx.1, hx.2.1, hx.2.2.1, hx.2.2.2, decide_eq_true (show x.wn ≤ 3 ∧ x.pn ≤ 6 by omega), Bool.and_true]
    rw [this]
  · have e : failE (gs7 B s).2 10 = (gs7 B s).2 := failE_no (Or.inl h0)
    rw [e]
    simp
/-- A row that is another kind's stays when a row grows. -/
theorem ownsRow_apart {w w' : World} {base base2 t t2 size size2 n m : Nat} {s v : Value} {xs ys : List Value} (h : w.ownsRow base t size s n xs) (hv : w.ownsRow base2 t2 size2 v m ys) (ht : t ≠ t2) (hg : w.grownBy w' v.ownBlock) : w'.ownsRow base t size s n xs := by
  refine h.kept hg ?_
  cases hs : s.ownBlock with
  | none => exact .inl rfl
  | some k =>
    refine .inr fun e => ?_
    rcases h.2 with ⟨rfl, _⟩ | ⟨g, cap, cur, rfl, _, hg1, _⟩
    · simp [Value.ownBlock] at hs
    · rcases hv.2 with ⟨rfl, _⟩ | ⟨g2, cap2, cur2, rfl, _, hg2, _⟩
      · simp [Value.ownBlock] at e
      · simp [Value.ownBlock] at hs e
        subst hs
        rw [← e, hg1] at hg2
        simp at hg2
        exact ht hg2.2
/-- An entry of the call's own: its rows stand from base on. -/
structure EOw (W : World) (t base : Nat) (z : E3) : Prop where
  l : z.1.lf.length = 16
  b : Bytes z.1.lf
  wl : z.2.1.length = z.1.wn * 16
  pl : z.2.2.length = z.1.pn * 16
  wn : z.1.wn ≤ 65535
  pn : z.1.pn ≤ 65535
  wb : Bytes z.2.1
  pb : Bytes z.2.2
  wr : W.ownsRow base t 16 (.slice z.1.wa z.1.wn z.1.wc) z.1.wn (bv z.2.1)
  pr : W.ownsRow base t 16 (.slice z.1.pa z.1.pn z.1.pc) z.1.pn (bv z.2.2)
theorem EOw.keep {W W' : World} {t base : Nat} {z : E3} (h : EOw W t base z) (hb : Below W.heap.size W W') : EOw W' t base z := ⟨h.l, h.b, h.wl, h.pl, h.wn, h.pn, h.wb, h.pb, ownsRow_below h.wr hb, ownsRow_below h.pr hb⟩
theorem EOw.turn {W W' : World} {t base b : Nat} {z : E3} {o : Obj} (h : EOw W t base z) (hT : Turn b o W W') (hb : b < base) : EOw W' t base z := ⟨h.l, h.b, h.wl, h.pl, h.wn, h.pn, h.wb, h.pb, ownsRow_turn h.wr hT hb, ownsRow_turn h.pr hT hb⟩
theorem EOw.apart {W W' : World} {t base base2 t2 size2 m : Nat} {z : E3} {v : Value} {ys : List Value} (h : EOw W t base z) (hv : W.ownsRow base2 t2 size2 v m ys) (ht : t ≠ t2) (hg : W.grownBy W' v.ownBlock) : EOw W' t base z :=
  ⟨h.l, h.b, h.wl, h.pl, h.wn, h.pn, h.wb, h.pb, ownsRow_apart h.wr hv ht hg, ownsRow_apart h.pr hv ht hg⟩
/-- The cells of entries. -/
def ecs (xs : List E3) : List Value := xs.flatMap fun z => ec z.1
theorem ecs_app (xs : List E3) (z : E3) : ecs (xs ++ [z]) = ecs xs ++ ec z.1 := by simp [ecs]
/-- A row of entries of the call's own (its type te, its rows' type t). -/
structure EOs (W : World) (te t base : Nat) (v : Value) (xs : List E3) : Prop where
  v : W.ownsRow base te 22 v xs.length (ecs xs)
  e : ∀ z ∈ xs, EOw W t base z
theorem EOs.keep {W W' : World} {te t base : Nat} {v : Value} {xs : List E3} (h : EOs W te t base v xs) (hb : Below W.heap.size W W') : EOs W' te t base v xs := ⟨ownsRow_below h.v hb, fun z hz => (h.e z hz).keep hb⟩
theorem EOs.turn {W W' : World} {te t base b : Nat} {v : Value} {xs : List E3} {o : Obj} (h : EOs W te t base v xs) (hT : Turn b o W W') (hb : b < base) : EOs W' te t base v xs := ⟨ownsRow_turn h.v hT hb, fun z hz => (h.e z hz).turn hT hb⟩
theorem EOs.app {W W' : World} {te t base : Nat} {v v' : Value} {xs : List E3} {z : E3} (h : EOs W te t base v xs) (hz : EOw W t base z) (ht : t ≠ te) (ho : W'.ownsRow base te 22 v' (xs.length + 1) (ecs xs ++ ec z.1)) (hg : W.grownBy W' v.ownBlock) : EOs W' te t base v' (xs ++ [z]) :=
  ⟨by rw [ecs_app, List.length_append]; exact ho, fun y hy => by
    rcases List.mem_append.1 hy with hy | hy
    · exact (h.e y hy).apart h.v ht hg
    · simp at hy
      subst hy
      exact hz.apart h.v ht hg⟩
end Go.Proofs.YtgabjmmmiogfjaaDoor
