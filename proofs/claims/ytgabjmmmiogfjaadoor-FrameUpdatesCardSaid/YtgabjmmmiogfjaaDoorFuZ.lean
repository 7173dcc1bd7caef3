/-
  The law FrameUpdates: what is said of updates that are the same.
-/
import Derived.Test.YtgabjmmmiogfjaaDoorFuX
import Derived.Test.YtgabjmmmiogfjaaDoorFuV
namespace Go.Proofs.YtgabjmmmiogfjaaDoor
open Go.RowKit

theorem SameE.symm {x y : E3} (h : SameE x y) : SameE y x := by
  obtain ⟨h1, h2, h3, h4, h5, h6, h7, h8, h9⟩ := h
  exact ⟨h1.symm, h2.symm, h3.symm, h4.symm, h5.symm, h6.symm, h7.symm, h8.symm, h9.symm⟩
theorem SameE.trans {x y z : E3} (h : SameE x y) (g : SameE y z) : SameE x z := by
  obtain ⟨h1, h2, h3, h4, h5, h6, h7, h8, h9⟩ := h
  obtain ⟨g1, g2, g3, g4, g5, g6, g7, g8, g9⟩ := g
  exact ⟨h1.trans g1, h2.trans g2, h3.trans g3, h4.trans g4, h5.trans g5, h6.trans g6, h7.trans g7, h8.trans g8, h9.trans g9⟩
theorem SameE.entB {x y : E3} (h : SameE x y) : entB x.1 x.2.1 x.2.2 = entB y.1 y.2.1 y.2.2 := by
  obtain ⟨h1, h2, h3, h4, h5, h6, h7, h8, h9⟩ := h
  unfold Go.Proofs.YtgabjmmmiogfjaaDoor.entB
  rw [h1, h2, h3, h4, h5, h6, h7, h8, h9]
theorem SameE.folB {x y : E3} (h : SameE x y) (l : Int) : folB l x.1 = folB l y.1 := by
  obtain ⟨h1, h2, h3, h4, h5, h6, h7, h8, h9⟩ := h
  unfold Go.Proofs.YtgabjmmmiogfjaaDoor.folB
  rw [h1, h2, h3, h4, h6, h7]
theorem same_lastD {f g : Nat → E3} {n : Nat} (h : ∀ i, i < n → SameE (f i) (g i)) : ∀ k, k ≤ n → lastD f k = lastD g k
  | 0, _ => rfl
  | k + 1, hk => (h k (by omega)).1
theorem same_updOk {f g : Nat → E3} {n : Nat} (h : ∀ i, i < n → SameE (f i) (g i)) : ∀ k, k ≤ n → updOk f k = updOk g k
  | 0, _ => rfl
  | k + 1, hk => by rw [updOk_succ, updOk_succ, same_updOk h k (by omega), same_lastD h k (by omega), (h k (by omega)).folB]
theorem same_entsB {f g : Nat → E3} {n : Nat} (h : ∀ i, i < n → SameE (f i) (g i)) : ∀ k, k ≤ n → entsB f k = entsB g k
  | 0, _ => rfl
  | k + 1, hk => by rw [entsB_succ, entsB_succ, same_entsB h k (by omega), (h k (by omega)).entB]
theorem same_updE {f g : Nat → E3} {n : Nat} (h : ∀ i, i < n → SameE (f i) (g i)) : updE f n = updE g n := by
  unfold updE
  rw [same_updOk h n (Nat.le_refl _)]
theorem same_updX {f g : Nat → E3} {n : Nat} (u : Bool) (h : ∀ i, i < n → SameE (f i) (g i)) : updX u f n = updX u g n := by
  unfold updX updB
  rw [same_updE h, same_entsB h n (Nat.le_refl _)]
theorem updE_one (f : Nat → E3) (n : Nat) : updE f n = 0 ∨ updE f n = 1 ∨ updE f n = 8 := by
  unfold updE
  split
  · exact Or.inr (Or.inr rfl)
  · split
    · exact Or.inl rfl
    · exact Or.inr (Or.inl rfl)
theorem updE_zero {f : Nat → E3} {n : Nat} (h : updE f n = 0) : n ≤ 8 ∧ updOk f n = true := by
  unfold updE at h
  split at h
  · omega
  · split at h
    · rename_i h1 h2
      exact ⟨by omega, h2⟩
    · omega
theorem updX_len {w : World} {M : Nat} {a : Option Addr} {u : Bool} {f : Nat → E3} {n : Nat} (h : HoldsE w M a n f) : (updX u f n).length ≤ 140737488351232 := by
  unfold updX
  split
  · rename_i h0
    obtain ⟨h8, hok⟩ := updE_zero h0
    have key : ∀ k, k ≤ n → (entsB f k).length ≤ k * 200 := fun k => by
      induction k with
      | zero => intro _; simp [entsB]
      | succ k ih =>
        intro hk
        have i1 := ih (by omega)
        have o1 := updOk_le hok hk
        rw [updOk_succ] at o1
        have i2 := entB_len (h.e k (by omega)) (by simpa using (Bool.and_eq_true _ _ ▸ o1 : _ ∧ _).2)
        rw [entsB_succ, List.length_append]
        omega
    have := key n (Nat.le_refl _)
    unfold updB
    rw [List.length_append, List.length_append, digs_len, digs_len]
    omega
  · simp
theorem HoldsW.mono {w : World} {M M' n : Nat} {a : Option Addr} {f : Nat → E3} (h : HoldsW w M a n f) (hM : M ≤ M') : HoldsW w M' a n f :=
  ⟨fun i hi => ⟨(h.e i hi).l, (h.e i hi).b, (h.e i hi).e, (h.e i hi).s, (h.e i hi).wn, (h.e i hi).pn, (h.e i hi).hw, (h.e i hi).hp, fun h0 b hq => Nat.lt_of_lt_of_le ((h.e i hi).wb h0 b hq) hM, fun h0 b hq => Nat.lt_of_lt_of_le ((h.e i hi).pb h0 b hq) hM⟩,
   fun i hi => by
    obtain ⟨b, off, e1, e2, e3, e4⟩ := h.c i hi
    exact ⟨b, off, e1, by omega, e3, e4⟩⟩
theorem HoldsW.grow {w w' : World} {n : Nat} {a : Option Addr} {f : Nat → E3} (h : HoldsW w w.heap.size a n f) (hb : Below w.heap.size w w') : HoldsW w' w'.heap.size a n f := (h.keep hb).mono hb.size
theorem same_nth {f : Nat → E3} {n : Nat} {xs : List E3} (hl : xs.length = n) (hs : ∀ j z, xs[j]? = some z → SameE (f j) z) : ∀ i, i < n → SameE (f i) (nthE xs i) := fun i hi => by
  have e : xs[i]? = some xs[i] := List.getElem?_eq_getElem (by omega)
  rw [nthE_at e]
  exact hs i _ e
/-- What To and From make, as an update in memory. -/
theorem made_holds {w W : World} {te t base M : Nat} {a a' : Option Addr} {n c : Nat} {f : Nat → E3} {xs : List E3} (h : HoldsW w M a' n f) (hs : EOs W te t base (.slice a n c) xs) (hl : xs.length = n) (he : ∀ j z, xs[j]? = some z → SameE (f j) z) :
    HoldsE W W.heap.size a n (nthE xs) ∧ ∀ i, i < n → SameE (f i) (nthE xs i) :=
  ⟨hs.holds (nthE xs) (fun i z hz => nthE_at hz) (fun z hz => by
    obtain ⟨j, hj⟩ := List.getElem?_of_mem hz
    have hjl : j < n := by rw [← hl]; exact (List.getElem?_eq_some_iff.1 hj).1
    obtain ⟨h1, h2, h3, h4, h5, h6, h7, h8, h9⟩ := he j z hj
    have g := h.e j hjl
    exact ⟨by rw [← h2]; exact g.e, by rw [← h3]; exact g.s, by rw [← h6]; exact g.wn, by rw [← h7]; exact g.pn⟩) hl.symm, same_nth hl he⟩
/-- How many entries GetUpdate answers. -/
def uM (B : List Int) : Nat := if uEnd B = 0 then uK B else 0
theorem uM_le (B : List Int) : uM B ≤ 8 := by
  unfold uM uK
  split
  · split
    · omega
    · omega
  · omega
theorem ug_holds {W : World} {B : List Int} {te t base : Nat} {a : Option Addr} {n c : Nat} {xs : List E3} (hb : Bytes B) (hs : EOs W te t base (.slice a n c) xs) (h : if uEnd B = 0 then UGood B (uK B) xs else xs = []) :
    n = uM B ∧ HoldsE W W.heap.size a n (nthE xs) ∧ (∀ z ∈ xs, z.2.1.length = z.1.wn * 16 ∧ z.2.2.length = z.1.pn * 16) ∧ ∀ j z, xs[j]? = some z → uE B j z := by
  have hw : ∀ z ∈ xs, z.2.1.length = z.1.wn * 16 ∧ z.2.2.length = z.1.pn * 16 := fun z hz => ⟨(hs.e z hz).wl, (hs.e z hz).pl⟩
  unfold uM
  by_cases h0 : uEnd B = 0
  · rw [if_pos h0] at h ⊢
    obtain ⟨g1, g2⟩ := h.holds hb hs
    exact ⟨g2, g1, hw, h.2⟩
  · rw [if_neg h0] at h ⊢
    subst h
    have hn : n = 0 := ownsRow_len hs.v
    subst hn
    exact ⟨rfl, ⟨fun i hi => absurd hi (by omega), fun i hi => absurd hi (by omega)⟩, hw, fun j z hz => by simp at hz⟩
theorem uE_same {B : List Int} {j : Nat} {x y : E3} (h : uE B j x) (g : uE B j y) (hx : x.2.1.length = x.1.wn * 16 ∧ x.2.2.length = x.1.pn * 16) (hy : y.2.1.length = y.1.wn * 16 ∧ y.2.2.length = y.1.pn * 16) : SameE x y := by
  obtain ⟨⟨h1, h2, h3, h4, h5⟩, h6, h7⟩ := h
  obtain ⟨⟨g1, g2, g3, g4, g5⟩, g6, g7⟩ := g
  have e6 : x.2.1 = y.2.1 := h6.trans g6.symm
  have e7 : x.2.2 = y.2.2 := h7.trans g7.symm
  exact ⟨h1.trans g1.symm, h2.trans g2.symm, h3.trans g3.symm, h4.trans g4.symm, h5.trans g5.symm, by have := hx.1; have := hy.1; rw [e6] at *; omega, by have := hx.2; have := hy.2; rw [e7] at *; omega, e6, e7⟩
theorem ug_same {B : List Int} {n : Nat} {xs ys : List E3} (hx : xs.length = n) (hy : ys.length = n) (h : ∀ j z, xs[j]? = some z → uE B j z) (g : ∀ j z, ys[j]? = some z → uE B j z) (hl : ∀ z ∈ xs, z.2.1.length = z.1.wn * 16 ∧ z.2.2.length = z.1.pn * 16) (gl : ∀ z ∈ ys, z.2.1.length = z.1.wn * 16 ∧ z.2.2.length = z.1.pn * 16) :
    ∀ i, i < n → SameE (nthE xs i) (nthE ys i) := fun i hi => by
  have e : xs[i]? = some xs[i] := List.getElem?_eq_getElem (by omega)
  have e' : ys[i]? = some ys[i] := List.getElem?_eq_getElem (by omega)
  rw [nthE_at e, nthE_at e']
  exact uE_same (h i _ e) (g i _ e') (hl _ (List.getElem_mem _)) (gl _ (List.getElem_mem _))
/-- An update that was laid, taken again. -/
theorem laid_same {w : World} {M : Nat} {a : Option Addr} {u : Bool} {f : Nat → E3} {n : Nat} {xs : List E3} (h : HoldsE w M a n f) (h0 : updE f n = 0) (hg : ∀ j z, xs[j]? = some z → uE (updX u f n) j z) (gl : ∀ z ∈ xs, z.2.1.length = z.1.wn * 16 ∧ z.2.2.length = z.1.pn * 16) :
    uEnd (updX u f n) = 0 ∧ (decide (uEnd (updX u f n) = 0) && (uFull (updX u f n) == 1)) = u ∧ uM (updX u f n) = n ∧ (xs.length = n → ∀ i, i < n → SameE (nthE xs i) (f i)) := by
  obtain ⟨h8, hok⟩ := updE_zero h0
  have hX : updX u f n = updB u f n := by unfold updX; rw [if_pos h0]
  rw [hX] at hg ⊢
  have e0 := upd_end (u := u) h hok h8
  obtain ⟨e1, e2, e3, e4⟩ := upd_head (u := u) (f := f) h8
  refine ⟨e0, ?_, ?_, fun hl i hi => ?_⟩
  · rw [e0, e1]
    unfold fullN
    cases u <;> simp
  · unfold uM
    rw [if_pos e0, e3]
  · have e : xs[i]? = some xs[i] := List.getElem?_eq_getElem (by omega)
    rw [nthE_at e]
    have t := (upd_taken (u := u) h hok h8).2 i hi
    obtain ⟨⟨t1, t2, t3, t4, t5⟩, t6, t7⟩ := t
    refine uE_same (hg i _ e) ⟨⟨t1.symm, t2.symm, t3.symm, t4.symm, t5.symm⟩, t6.symm, t7.symm⟩ (gl _ (List.getElem_mem _)) ?_
    have q := h.e i hi
    exact ⟨q.hw.lenB.1, q.hp.lenB.1⟩
end Go.Proofs.YtgabjmmmiogfjaaDoor
