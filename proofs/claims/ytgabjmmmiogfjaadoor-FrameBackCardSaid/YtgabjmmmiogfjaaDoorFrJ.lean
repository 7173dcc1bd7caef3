/-
  frame.taken: the frame of any bytes, and its tag.
-/
import Derived.Test.YtgabjmmmiogfjaaDoorFrI
import Derived.Deep.RegionHeld3
namespace Go.Proofs.YtgabjmmmiogfjaaDoor
open Go.RowKit

def tV (B : List Int) : Int := numOf (rawP B 0 0 1)
def tE0 (B : List Int) : Int := rawE B 0 0 1
def tA1 (B : List Int) : Nat := rawA B 0 0 1
def tE1 (B : List Int) : Int := if tV B = 1 then tE0 B else failE (tE0 B) 10
def tFr (B : List Int) : Int := numOf (rawP B (tA1 B) (tE1 B) 1)
def tE2 (B : List Int) : Int := rawE B (tA1 B) (tE1 B) 1
def tA2 (B : List Int) : Nat := rawA B (tA1 B) (tE1 B) 1
def tTo (B : List Int) : Int := numOf (rawP B (tA2 B) (tE2 B) 1)
def tE3 (B : List Int) : Int := rawE B (tA2 B) (tE2 B) 1
def tA3 (B : List Int) : Nat := rawA B (tA2 B) (tE2 B) 1
def tBo (B : List Int) : Int := numOf (rawP B (tA3 B) (tE3 B) 8)
def tE4 (B : List Int) : Int := rawE B (tA3 B) (tE3 B) 8
def tA4 (B : List Int) : Nat := rawA B (tA3 B) (tE3 B) 8
def tCo (B : List Int) : Int := numOf (rawP B (tA4 B) (tE4 B) 8)
def tE5 (B : List Int) : Int := rawE B (tA4 B) (tE4 B) 8
def tA5 (B : List Int) : Nat := rawA B (tA4 B) (tE4 B) 8
def tKi (B : List Int) : Int := numOf (rawP B (tA5 B) (tE5 B) 1)
def tE6 (B : List Int) : Int := rawE B (tA5 B) (tE5 B) 1
def tA6 (B : List Int) : Nat := rawA B (tA5 B) (tE5 B) 1
def tBody (B : List Int) : List Int := rblobP B (tA6 B) (tE6 B) 4096
def tE7 (B : List Int) : Int := rblobE B (tA6 B) (tE6 B) 4096
def tA7 (B : List Int) : Nat := rblobA B (tA6 B) (tE6 B) 4096
def tTag (B : List Int) : List Int := rsumP B (tA7 B) (tE7 B)
def tE8 (B : List Int) : Int := rawE B (tA7 B) (tE7 B) 16
def tA8 (B : List Int) : Nat := rawA B (tA7 B) (tE7 B) 16
def tEnd (B : List Int) : Int := if 0 < rleft B (tA8 B) (tE8 B) then 10 else tE8 B
/-- The frame that bytes are, its body at that place. -/
def tF (B : List Int) (a : Option Addr) (c : Nat) : FV := ⟨tFr B, tTo B, tBo B, tCo B, tKi B, a, (tBody B).length, c⟩
def tR (B : List Int) : Bool := frB (tF B none 0)
def tErr (B : List Int) : Int := if tEnd B ≠ 0 then tEnd B else if tR B = true then 0 else 10
def xX (B : List Int) (n : Int) : Int := if tErr B = 0 then n else 0
def xT (B : List Int) : List Int := if tErr B = 0 then tBody B else []
def xG (B : List Int) : List Int := if tErr B = 0 then tTag B else fill 16 []
/-- What bytes are, as a frame: zeros where they are none. -/
def xF (B : List Int) (a : Option Addr) (c : Nat) : FV := ⟨xX B (tFr B), xX B (tTo B), xX B (tBo B), xX B (tCo B), xX B (tKi B), a, (xT B).length, c⟩
theorem one_lt {B : List Int} (hb : Bytes B) (a : Nat) (e : Int) : 0 ≤ numOf (rawP B a e 1) ∧ numOf (rawP B a e 1) ≤ 255 := numOf_one (rawP_len _ _ _ _) (rawP_bytes hb _ _ _)
theorem big_lt {B : List Int} (hb : Bytes B) (a : Nat) (e : Int) : 0 ≤ numOf (rawP B a e 8) ∧ numOf (rawP B a e 8) < 18446744073709551616 := numOf_range _ (rawP_bytes hb _ _ _)
theorem tEnd_is {l B : List Int} (hr : Rel l (tE8 B) B (tA8 B)) : endE l (tE8 B) = tEnd B := by
  unfold endE tEnd
  rw [hr.left]
  by_cases h : 0 < rleft B (tA8 B) (tE8 B)
  · rw [if_pos h, if_pos h]
    have : tE8 B = 0 := by
      false_or_by_contra
      rename_i hne
      unfold rleft at h
      rw [if_neg hne] at h
      omega
    rw [this]
    rfl
  · rw [if_neg h, if_neg h]
theorem Rel.sum {l B : List Int} {e : Int} {at' : Nat} (h : Rel l e B at') : sumP l e = rsumP B at' e := by
  unfold sumP rsumP
  by_cases he : e = 0
  · have hl := h.ok he
    rw [hl, List.length_drop]
  · rw [if_neg (by omega), if_neg (by omega)]
theorem rsumP_bytes {B : List Int} (hb : Bytes B) (at' : Nat) (e : Int) : Bytes (rsumP B at' e) := by
  unfold rsumP
  split
  · exact (hb.drop _).take _
  · intro x hx; simp at hx; omega
theorem tTag_len (B : List Int) : (tTag B).length = 16 := rsumP_len _ _ _
/-- frame.taken, on its way: its results stand in F and F + 1, its In in I. -/
structure GSt (w : World) (F I : Nat) (l : List Int) (e : Int) (W : World) : Prop where
  i : InIs W I I l e
  b : Blk W F RZ
  s : Row W (F + 1) 83 .u8 (fill 16 [])
  below : Below F w W
  fi : F + 1 < I
theorem InIs.lt' {w : World} {M I : Nat} {l : List Int} {e : Int} (h : InIs w M I l e) : I < w.heap.size := by obtain ⟨_, ⟨v, _, hb⟩, _⟩ := h; exact hb.lt
theorem GSt.step {w W W' : World} {F I : Nat} {l l' : List Int} {e e' : Int} (h : GSt w F I l e W) (hs : InStep I I l' e' W W') : GSt w F I l' e' W' := by
  obtain ⟨h1, o, ho⟩ := hs
  have := h.fi
  exact ⟨h1, ho.keep h.b (by omega), ho.keep h.s (by omega), h.below.trans (ho.below (by omega) (by have := h.b.lt; omega)), h.fi⟩
theorem GSt.turn {w W W' : World} {F I b : Nat} {l : List Int} {e : Int} {o : Obj} (h : GSt w F I l e W) (hT : Turn b o W W') (hb : I < b) : GSt w F I l e W' := by
  have := h.fi
  exact ⟨h.i.turn hT (by omega) (by omega), hT.keep h.b (by omega), hT.keep h.s (by omega), h.below.trans (hT.below (by omega) (by have := h.b.lt; omega)), h.fi⟩
theorem GSt.more {w W W' : World} {F I : Nat} {l : List Int} {e : Int} (h : GSt w F I l e W) (hb : Below W.heap.size W W') : GSt w F I l e W' :=
  ⟨h.i.keep hb, h.b.keep hb, h.s.keep hb, h.below.trans (hb.mono (by have := h.b.lt; omega)), h.fi⟩
/-- With the frame in K. -/
structure KSt (w : World) (F I K : Nat) (l : List Int) (e : Int) (cs : Array Value) (W : World) : Prop where
  g : GSt w F I l e W
  k : Blk W K (.cells cs 30)
  ik : I < K
theorem KSt.step {w W W' : World} {F I K : Nat} {cs : Array Value} {l l' : List Int} {e e' : Int} (h : KSt w F I K l e cs W) (hs : InStep I I l' e' W W') : KSt w F I K l' e' cs W' := by
  have := h.ik
  refine ⟨h.g.step hs, ?_, h.ik⟩
  obtain ⟨_, o, ho⟩ := hs
  exact ho.keep h.k (by omega)
theorem KSt.put {w W : World} {F I K : Nat} {cs : Array Value} {l : List Int} {e : Int} (h : KSt w F I K l e cs W) (i : Nat) (v : Value) : KSt w F I K l e (cs.setIfInBounds i v) (W.setCell ⟨K, i, none⟩ v) := by
  have hT := (Turn.same h.k).set i v
  exact ⟨h.g.turn hT h.ik, hT.blk, h.ik⟩
def TakenPost (B : List Int) (w : World) (r : Ending) (w' : World) : Prop :=
  ∃ a c, r = .returned (.tuple #[(xF B a c).v, dgV (xG B), .int .i64 (tErr B)]) ∧ HoldsB w' w'.heap.size (.slice a (xT B).length c) (xT B) ∧ Below w.heap.size w w'
theorem build83z (w : World) : (Instr.build 83 #[]).run Tryd.prog w = .ok (dgV (fill 16 [])) w := run_build w 83 #[] _ (by kernel_rfl)
theorem results_three {P : Program} {fn : Func} {p q s : Tmp} {ty tz : TypeId} (h : fn.results = #[.cell p ty, .cell q tz, .tmp s]) (tmps : Array Value) (w : World) (g g' : Nat) (t t' : TypeId) (cs cs' : Array Value) (d d' : TypeDesc) (u : Value)
    (hp : tmps.getD p undef = .pointer (some ⟨g, 0, none⟩)) (hq : tmps.getD q undef = .pointer (some ⟨g', 0, none⟩)) (hs : tmps.getD s undef = u)
    (hg : w.heap[g]? = some (.cells cs t (0, 0))) (hg' : w.heap[g']? = some (.cells cs' t' (0, 0)))
    (hu : P.underlying ty = some d) (hd : (match d with | .struct _ | .array _ _ => true | _ => false) = true) (hi : (P.info? ty).map (·.size) = some cs.size)
    (hu' : P.underlying tz = some d') (hd' : (match d' with | .struct _ | .array _ _ => true | _ => false) = true) (hi' : (P.info? tz).map (·.size) = some cs'.size) :
    (results fn tmps).run P w = .ok (.tuple #[.agg cs, .agg cs', u]) w := by
  have hp' : tmps[p]?.getD undef = .pointer (some ⟨g, 0, none⟩) := by simpa using hp
  have hq' : tmps[q]?.getD undef = .pointer (some ⟨g', 0, none⟩) := by simpa using hq
  have hs' : tmps[s]?.getD undef = u := by simpa using hs
  simp [results, h, hp', hq', hs', asAddr, run_loadVar_row w g t ty cs (0, 0) d hg hu hd hi, run_loadVar_row w g' t' tz cs' (0, 0) d' hg' hu' hd' hi']
end Go.Proofs.YtgabjmmmiogfjaaDoor
