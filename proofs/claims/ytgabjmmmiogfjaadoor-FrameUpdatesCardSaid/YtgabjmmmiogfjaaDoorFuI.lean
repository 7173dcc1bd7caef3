/-
  What bytes are, as rows of short sums; frame.getEntry.
-/
import Derived.Test.YtgabjmmmiogfjaaDoorFuH
namespace Go.Proofs.YtgabjmmmiogfjaaDoor
open Go.RowKit

theorem Rel.sum {l B : List Int} {e : Int} {at' : Nat} (h : Rel l e B at') : sumP l e = rsumP B at' e := by
  unfold sumP rsumP
  by_cases he : e = 0
  · have hl := h.ok he
    have hlen : l.length = B.length - at' := by rw [hl, List.length_drop]
    by_cases hk : 16 ≤ l.length
    · rw [if_pos ⟨he, hk⟩, if_pos ⟨he, by omega⟩, hl]
    · rw [if_neg (by omega), if_neg (by omega)]
  · rw [if_neg (by omega), if_neg (by omega)]
theorem Rel.sums {l B : List Int} {e : Int} {at' : Nat} (h : Rel l e B at') (hb : Bytes l) (hB : Bytes B) (most : Int) :
    sumsP l e most = rsumsP B at' e most ∧ sumsE l e most = rsumsE B at' e most ∧ Rel (sumsL l e most) (rsumsE B at' e most) B (rsumsA B at' e most) := by
  obtain ⟨hp, he1, hr⟩ := h.next 1
  have hm := h.many 1 (by omega) hb most
  obtain ⟨hc1, hc2⟩ := cnt1_is hB at' e
  have hov : overF most (cnt1 B at' e) = manyB l e 1 most := by rw [hm, hc1]; rfl
  have hn0 : rawE B at' e 1 ≠ 0 → cnt1 B at' e = 0 := fun hz => by unfold cnt1; rw [rawP_bad hz]; rfl
  have hov0 : overF most (cnt1 B at' e) = true → rawE B at' e 1 = 0 := fun ho => numOf_pos_ok (by rw [← hm, ← hov]; exact ho)
  have hR : manyR l e 1 most = (if overF most (cnt1 B at' e) then (0 : Int) else ((cnt1 B at' e : Nat) : Int)) := by unfold manyR; rw [hov, hp, hc1]
  have hL : manyL l e 1 most = if overF most (cnt1 B at' e) then failL (nextL l e 1) (rawE B at' e 1) 8 else nextL l e 1 := by unfold manyL; rw [hov, he1]
  have hE : manyE l e 1 most = if overF most (cnt1 B at' e) then failE (rawE B at' e 1) 8 else rawE B at' e 1 := by unfold manyE; rw [hov, he1]
  have hRE : rsumsE B at' e most = if rawE B at' e 1 ≠ 0 then rawE B at' e 1 else if overF most (cnt1 B at' e) then 8 else if cnt1 B at' e * 16 ≤ B.length - rawA B at' e 1 then 0 else 9 := rfl
  have hRA : rsumsA B at' e most = if rawE B at' e 1 ≠ 0 then rawA B at' e 1 else if overF most (cnt1 B at' e) then rawA B at' e 1 else if cnt1 B at' e * 16 ≤ B.length - rawA B at' e 1 then rawA B at' e 1 + cnt1 B at' e * 16 else rawA B at' e 1 + (B.length - rawA B at' e 1) / 16 * 16 := rfl
  have hRP : rsumsP B at' e most = if rsumsE B at' e most = 0 then (B.drop (rawA B at' e 1)).take (cnt1 B at' e * 16) else [] := rfl
  unfold sumsP sumsE sumsL sumsN
  clear hm hov he1 hp hc1
  generalize rsumsE B at' e most = RE at *
  generalize rsumsA B at' e most = RA at *
  generalize rsumsP B at' e most = RP at *
  generalize rawE B at' e 1 = e1 at *
  generalize rawA B at' e 1 = a1 at *
  generalize cnt1 B at' e = n at *
  generalize manyR l e 1 most = mR at *
  generalize manyL l e 1 most = mL at *
  generalize manyE l e 1 most = mE at *
  generalize nextL l e 1 = l1 at *
  by_cases hlim : overF most n = true
  · have hz := hov0 hlim
    subst hz
    rw [if_pos hlim] at hR hL hE
    rw [if_neg (by simp), if_pos hlim] at hRE hRA
    rw [failL_yes rfl (by decide)] at hL
    rw [failE_yes rfl (by decide)] at hE
    rw [hRE, if_neg (by decide)] at hRP
    rw [hR, hL, hE, hRE, hRP]
    exact ⟨rfl, rfl, fun h => absurd h (by decide), fun _ => rfl⟩
  · rw [if_neg hlim] at hR hL hE
    rw [hR, hL, hE, Int.toNat_natCast]
    clear hR hL hE
    obtain ⟨h1, h2, h3⟩ := hr.next (n * 16)
    by_cases hz : e1 = 0
    · subst hz
      rw [if_neg (by simp), if_neg hlim] at hRE hRA
      by_cases hf : n * 16 ≤ B.length - a1
      · rw [if_pos hf] at hRE hRA
        rw [hRE, if_pos rfl] at hRP
        rw [hRE, hRA, hRP]
        rw [rawP_fit hf] at h1
        rw [rawE_fit hf] at h2 h3
        rw [rawA_fit hf] at h3
        exact ⟨h1, h2, h3⟩
      · rw [if_neg hf] at hRE hRA
        rw [hRE, if_neg (by decide)] at hRP
        rw [hRE, hRP]
        rw [rawP_short (by omega)] at h1
        rw [rawE_short (by omega)] at h2 h3
        exact ⟨h1, h2, fun h => absurd h (by decide), h3.bad⟩
    · have hn := hn0 hz
      subst hn
      rw [if_pos hz] at hRE hRA
      rw [hRE, if_neg hz] at hRP
      rw [hRE, hRA, hRP]
      rw [rawP_err hz] at h1
      rw [rawE_err hz] at h2 h3
      exact ⟨h1, h2, fun h => absurd h hz, h3.bad⟩
theorem Turn.cells {b : Nat} {t : TypeId} {w : World} : ∀ (vs : List Value) (o : Nat) (w' : World) (C : List Value), o + vs.length ≤ C.length → Turn b (.cells C.toArray t) w w' → Turn b (.cells (splice C o vs).toArray t) w (w'.setCells b o vs)
  | [], o, w', C, _, h => by
    have e : splice C o [] = C := by simp [splice]
    rw [e]
    exact h
  | v :: r, o, w', C, hl, h => by
    have h0 := h.set o v
    rw [List.setIfInBounds_toArray] at h0
    have h1 := Turn.cells r (o + 1) _ (C.set o v) (by simp at hl ⊢; omega) h0
    have e : splice (C.set o v) (o + 1) r = splice C o (v :: r) := by
      simp at hl
      unfold splice
      have e1 : (C.set o v).take (o + 1) = C.take o ++ [v] := by
        rw [List.take_add_one, List.take_set_of_le (Nat.le_refl o)]
        simp [List.getElem?_set_self (show o < C.length by omega)]
      have e2 : (C.set o v).drop (o + 1 + r.length) = C.drop (o + 1 + r.length) := List.drop_set_of_lt (by omega)
      rw [e1, e2, List.append_assoc, List.singleton_append, List.cons_append, List.length_cons, show o + 1 + r.length = o + (r.length + 1) by omega]
    rw [e] at h1
    exact h1
def x0 : EV := ⟨0, 0, 0, 0, fill 16 [], none, 0, 0, none, 0, 0⟩
theorem ec_set1 (x : EV) (n : Int) : (ec x).toArray.setIfInBounds 1 (.int .u32 n) = (ec { x with e := n }).toArray := by simp [ec]
theorem ec_set2 (x : EV) (n : Int) : (ec x).toArray.setIfInBounds 2 (.int .u32 n) = (ec { x with s := n }).toArray := by simp [ec]
theorem ec_set3 (x : EV) (n : Int) : (ec x).toArray.setIfInBounds 3 (.int .i64 n) = (ec { x with m := n }).toArray := by simp [ec]
theorem ec_set20 {x : EV} (h : x.lf.length = 16) (a : Option Addr) (n c : Nat) : (ec x).toArray.setIfInBounds 20 (.slice a n c) = (ec { x with wa := a, wn := n, wc := c }).toArray := by
  simp [ec, List.set_append, h]
theorem ec_set21 {x : EV} (h : x.lf.length = 16) (a : Option Addr) (n c : Nat) : (ec x).toArray.setIfInBounds 21 (.slice a n c) = (ec { x with pa := a, pn := n, pc := c }).toArray := by
  simp [ec, List.set_append, h]
theorem ec_splice {x : EV} {l : List Int} (h : x.lf.length = 16) (hl : l.length = 16) : splice (ec x) 4 (bv l) = ec { x with lf := l } := by
  have e : (ec x).drop 20 = [.slice x.wa x.wn x.wc, .slice x.pa x.pn x.pc] := by
    unfold ec
    exact List.drop_left' (by simp [h])
  unfold splice
  rw [List.length_map, hl, show 4 + 16 = 20 from rfl, e]
  simp [ec]
/-- A place and an error. -/
def stp (B : List Int) (k : Nat) (s : Nat × Int) : Nat × Int := (rawA B s.1 s.2 k, rawE B s.1 s.2 k)
def ssm (B : List Int) (most : Int) (s : Nat × Int) : Nat × Int := (rsumsA B s.1 s.2 most, rsumsE B s.1 s.2 most)
def gs1 (B : List Int) (s : Nat × Int) := stp B 1 s
def gs2 (B : List Int) (s : Nat × Int) := stp B 4 (gs1 B s)
def gs3 (B : List Int) (s : Nat × Int) := stp B 1 (gs2 B s)
def gs4 (B : List Int) (s : Nat × Int) := stp B 1 (gs3 B s)
def gs5 (B : List Int) (s : Nat × Int) := stp B 16 (gs4 B s)
def gs6 (B : List Int) (s : Nat × Int) := ssm B 3 (gs5 B s)
def gs7 (B : List Int) (s : Nat × Int) := ssm B 6 (gs6 B s)
def nD (B : List Int) (s : Nat × Int) : Int := numOf (rawP B s.1 s.2 1)
def nE (B : List Int) (s : Nat × Int) : Int := numOf (rawP B (gs1 B s).1 (gs1 B s).2 4)
def nS (B : List Int) (s : Nat × Int) : Int := numOf (rawP B (gs2 B s).1 (gs2 B s).2 1)
def nM (B : List Int) (s : Nat × Int) : Int := numOf (rawP B (gs3 B s).1 (gs3 B s).2 1)
def nL (B : List Int) (s : Nat × Int) : List Int := rsumP B (gs4 B s).1 (gs4 B s).2
def nW (B : List Int) (s : Nat × Int) : List Int := rsumsP B (gs5 B s).1 (gs5 B s).2 3
def nP (B : List Int) (s : Nat × Int) : List Int := rsumsP B (gs6 B s).1 (gs6 B s).2 6
/-- getEntry, on its way. -/
structure GE (w : World) (I R K : Nat) (x : EV) (l : List Int) (e : Int) (W : World) : Prop where
  i : InIs W I I l e
  r : Blk W R (.cells (ec x0).toArray 115)
  k : Blk W K (.cells (ec x).toArray 115)
  t : ∃ o, Turn I o w W
  iw : I < w.heap.size
  wr : w.heap.size ≤ R
  rk : R < K
  xl : x.lf.length = 16
theorem GE.read {w W W' : World} {I R K : Nat} {x : EV} {l l' : List Int} {e e' : Int} (h : GE w I R K x l e W) (hs : InStep I I l' e' W W') : GE w I R K x l' e' W' := by
  have h1 := h.iw
  have h2 := h.wr
  have h3 := h.rk
  obtain ⟨o, ho⟩ := h.t
  refine ⟨hs.is, hs.keep h.r (by omega), hs.keep h.k (by omega), ?_, h1, h2, h3, h.xl⟩
  obtain ⟨_, o2, ho2⟩ := hs
  exact ⟨o2, ho.trans ho2⟩
theorem GE.put {w W W' : World} {I R K : Nat} {x x' : EV} {l : List Int} {e : Int} (h : GE w I R K x l e W) (hT : Turn K (.cells (ec x').toArray 115) W W') (hl : x'.lf.length = 16) : GE w I R K x' l e W' := by
  have h1 := h.iw
  have h2 := h.wr
  have h3 := h.rk
  obtain ⟨o, ho⟩ := h.t
  exact ⟨h.i.turn hT (by omega) (by omega), hT.keep h.r (by omega), hT.blk, ⟨o, ho.upto (hT.below (B := w.heap.size) (by omega) ho.size) (Nat.le_refl _) h1⟩, h1, h2, h3, hl⟩
end Go.Proofs.YtgabjmmmiogfjaaDoor
