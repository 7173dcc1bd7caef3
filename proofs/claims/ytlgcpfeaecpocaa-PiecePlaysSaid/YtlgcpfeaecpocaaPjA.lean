/-
  A body's pieces, in whatever order: plain facts.
-/
import Derived.Test.YtlgcpfeaecpocaaPcR
namespace Go.Proofs.Ytlgcpfeaecpocaa
open Go.RowKit

/-- What stands in the parts of a body. -/
def PsOk (bl : List Int) (sz : Nat) (ps : List PtV) : Prop := ∀ (k : Nat) (x : PtV), ps[k]? = some x → x.l = if x.there = true then pieceL bl sz k else []
theorem pieceL_len (bl : List Int) (sz k : Nat) : (pieceL bl sz k).length ≤ sz := by
  unfold pieceL
  rw [List.length_drop, List.length_take, Nat.add_mul]
  omega
theorem PsOk.new (bl : List Int) (sz m : Nat) : PsOk bl sz (List.replicate m noPt) := fun k x hx => by
  have := List.mem_of_getElem? hx
  rw [List.eq_of_mem_replicate this]
  rfl
theorem PsOk.put {bl : List Int} {sz : Nat} {ps : List PtV} (h : PsOk bl sz ps) {k : Nat} (hk : k < ps.length) (v : Value) : PsOk bl sz (ps.set k ⟨true, v, pieceL bl sz k⟩) := fun j x hx => by
  rw [List.getElem?_set] at hx
  split at hx
  · rename_i e
    subst e
    simp only [Option.some.injEq] at hx
    subst hx
    rfl
  · exact h j x hx
theorem lens_small {ps : List PtV} {b : Nat} (h : ∀ x ∈ ps, x.l.length ≤ b) : lens ps ≤ b * ps.length := by
  unfold lens
  induction ps with
  | nil => simp
  | cons x r ih =>
    have h1 := h x (by simp)
    have h2 := ih fun y hy => h y (by simp [hy])
    simp only [List.map_cons, List.sum_cons, List.length_cons, Nat.mul_add]
    omega
theorem PsOk.len {bl : List Int} {sz : Nat} {ps : List PtV} (h : PsOk bl sz ps) : ∀ x ∈ ps, x.l.length ≤ sz := fun x hx => by
  obtain ⟨k, hk⟩ := List.mem_iff_getElem?.1 hx
  rw [h k x hk]
  split
  · exact pieceL_len _ _ _
  · simp
theorem haves_set {ps : List PtV} : ∀ {k : Nat} {x y : PtV}, ps[k]? = some x → x.there = false → y.there = true → haves (ps.set k y) = haves ps + 1 := by
  induction ps with
  | nil => intro k x y h; simp at h
  | cons z r ih =>
    intro k x y h h1 h2
    cases k with
    | zero =>
      simp only [List.getElem?_cons_zero, Option.some.injEq] at h
      subst h
      simp [haves, List.filter_cons, h1, h2]
    | succ k =>
      simp only [List.getElem?_cons_succ] at h
      have := ih h h1 h2
      unfold haves at this ⊢
      simp only [List.set_cons_succ, List.filter_cons]
      split <;> simp [this]
theorem lens_set {ps : List PtV} : ∀ {k : Nat} {x y : PtV}, ps[k]? = some x → x.l = [] → lens (ps.set k y) = lens ps + y.l.length := by
  induction ps with
  | nil => intro k x y h; simp at h
  | cons z r ih =>
    intro k x y h h1
    cases k with
    | zero =>
      simp only [List.getElem?_cons_zero, Option.some.injEq] at h
      subst h
      simp [lens, h1]
      omega
    | succ k =>
      simp only [List.getElem?_cons_succ] at h
      have := ih h h1 (y := y)
      unfold lens at this ⊢
      simp only [List.set_cons_succ, List.map_cons, List.sum_cons]
      omega
theorem haves_all {ps : List PtV} (h : haves ps = ps.length) : ∀ x ∈ ps, x.there = true := by
  unfold haves at h
  exact List.length_filter_eq_length_iff.1 h
theorem texts_all {bl : List Int} {sz : Nat} {ps : List PtV} (h : PsOk bl sz ps) (ha : ∀ x ∈ ps, x.there = true) : ∀ i, i ≤ ps.length → texts (ps.take i) = bl.take (i * sz) := by
  intro i
  induction i with
  | zero => intro _; simp [texts]
  | succ i ih =>
    intro hi
    have hi' : i < ps.length := by omega
    rw [texts_succ hi', ih (by omega), h i _ (List.getElem?_eq_getElem hi'), if_pos (ha _ (List.getElem_mem hi'))]
    unfold pieceL
    rw [show (i + 1) * sz = i * sz + sz by rw [Nat.add_mul]; omega]
    by_cases hc : i * sz + sz ≤ bl.length
    · rw [Nat.min_eq_left hc, List.take_add, List.drop_left' (by rw [List.length_take]; omega)]
    · rw [Nat.min_eq_right (by omega), List.take_of_length_le (Nat.le_refl bl.length), List.take_of_length_le (show bl.length ≤ i * sz + sz by omega), List.take_append_drop]
/-- A piece of a body's. -/
def PvOk (bl : List Int) (sz m : Nat) (id : Int) (p : PV) (k : Nat) : Prop := p.id = id ∧ p.at_ = k ∧ p.many = m ∧ p.n = (pieceL bl sz k).length ∧ k < m ∧ m ≤ 32 ∧ sz ≤ 500
theorem PvOk.right {bl : List Int} {sz m k : Nat} {id : Int} {p : PV} (h : PvOk bl sz m id p k) : rightB p = true := by
  obtain ⟨h1, h2, h3, h4, h5, h6, h7⟩ := h
  have := pieceL_len bl sz k
  unfold rightB
  exact decide_eq_true (by omega)
/-- The parts ahead of a piece. -/
def aheadP (J : PjM) (id : Int) (m : Nat) : List PtV := if J.began = true ∧ J.id = id then J.ps else List.replicate m noPt
theorem take_fresh {bl : List Int} {sz m k : Nat} {id : Int} {J : PjM} {p : PV} (hp : PvOk bl sz m id p k) (hJ : (J.began = false ∨ J.id < id) ∨ (J.began = true ∧ J.id = id ∧ J.ps.length = m))
    (hps : PsOk bl sz (aheadP J id m)) (hx : ∃ x, (aheadP J id m)[k]? = some x ∧ x.there = false) (v : Value) :
    takeR J p (pieceL bl sz k) v = (if haves (aheadP J id m) + 1 < m then (0, false, [], ⟨true, id, (aheadP J id m).set k ⟨true, v, pieceL bl sz k⟩⟩) else (0, true, texts ((aheadP J id m).set k ⟨true, v, pieceL bl sz k⟩), ⟨true, id, []⟩)) := by
  have hr := hp.right
  obtain ⟨h1, h2, h3, h4, h5, h6, h7⟩ := hp
  obtain ⟨x, hx1, hx2⟩ := hx
  have hN : nextJ J p = ⟨true, id, aheadP J id m⟩ := by
    unfold nextJ aheadP
    rcases hJ with hJ | ⟨ha, hb, hc⟩
    · rw [if_pos (by rcases hJ with h | h <;> simp [h, h1]), if_neg (by rintro ⟨a, b⟩; rcases hJ with h | h; rw [a] at h; cases h; omega), h1, h3]
      simp
    · rw [if_neg (by simp [ha, hb, h1]), if_pos ⟨ha, hb⟩]
      cases J
      simp_all
  have hL : lookE J p = 0 := by
    unfold lookE
    rw [if_neg (by rw [hr]; decide)]
    rcases hJ with hJ | ⟨ha, hb, hc⟩
    · rw [if_pos (by rcases hJ with h | h <;> simp [h, h1])]
    · rw [if_neg (by simp [ha, hb, h1]), if_neg (by omega), if_pos (by omega)]
  have hlen : (aheadP J id m).length = m := by
    unfold aheadP
    split
    · rename_i h
      rcases hJ with hJ | ⟨ha, hb, hc⟩
      · rcases hJ with h' | h'
        · rw [h.1] at h'; cases h'
        · omega
      · exact hc
    · simp
  generalize aheadP J id m = ps at *
  have hxl : x.l = [] := by rw [hps k x hx1, if_neg (by rw [hx2]; decide)]
  have hk : p.at_.toNat = k := by omega
  have hlens : lens ps + (pieceL bl sz k).length ≤ 16384 := by
    have e1 := lens_set (y := ⟨true, v, pieceL bl sz k⟩) hx1 hxl
    have e2 := lens_small (hps.put (k := k) (by omega) v).len
    rw [List.length_set, hlen] at e2
    have e3 : sz * m ≤ 500 * 32 := Nat.mul_le_mul h7 h6
    simp only [] at e1
    omega
  have hg : ps.getD k noPt = x := by rw [List.getD_eq_getElem?_getD, hx1]; rfl
  have hK : keepE ⟨true, id, ps⟩ k (pieceL bl sz k) = 0 ∧ keepJ ⟨true, id, ps⟩ k (pieceL bl sz k) v = ⟨true, id, ps.set k ⟨true, v, pieceL bl sz k⟩⟩ := by
    unfold keepE keepJ
    simp only [hg, hx2]
    constructor
    · rw [if_neg (by decide), if_neg (by omega)]
    · rw [if_neg (by decide), if_neg (by omega)]
  unfold takeR
  simp only [hL, hN, hk, hK.1, hK.2, haves_set (y := ⟨true, v, pieceL bl sz k⟩) hx1 hx2 rfl, List.length_set, hlen, if_true]
theorem take_again {bl : List Int} {sz m k : Nat} {id : Int} {ps : List PtV} {p : PV} (hp : PvOk bl sz m id p k) (hl : ps.length = m) (hps : PsOk bl sz ps) (hx : ∃ x, ps[k]? = some x ∧ x.there = true) (hh : haves ps < m) (v : Value) :
    takeR ⟨true, id, ps⟩ p (pieceL bl sz k) v = (0, false, [], ⟨true, id, ps⟩) := by
  have hr := hp.right
  obtain ⟨h1, h2, h3, h4, h5, h6, h7⟩ := hp
  obtain ⟨x, hx1, hx2⟩ := hx
  have hN : nextJ ⟨true, id, ps⟩ p = ⟨true, id, ps⟩ := by
    unfold nextJ
    rw [if_neg (by simp [h1])]
  have hL : lookE ⟨true, id, ps⟩ p = 0 := by
    unfold lookE
    rw [if_neg (by rw [hr]; decide), if_neg (by simp [h1]), if_neg (by simp only []; omega), if_pos (by simp only []; omega)]
  have hxl : x.l = pieceL bl sz k := by rw [hps k x hx1, if_pos hx2]
  have hk : p.at_.toNat = k := by omega
  have hg : ps.getD k noPt = x := by rw [List.getD_eq_getElem?_getD, hx1]; rfl
  have hK : keepE ⟨true, id, ps⟩ k (pieceL bl sz k) = 0 ∧ keepJ ⟨true, id, ps⟩ k (pieceL bl sz k) v = ⟨true, id, ps⟩ := by
    unfold keepE keepJ
    simp only [hg, hx2, hxl]
    exact ⟨rfl, rfl⟩
  unfold takeR
  simp only [hL, hN, hk, hK.1, hK.2, if_true]
  rw [if_pos (by omega)]
theorem take_over {bl : List Int} {sz m k : Nat} {id : Int} {p : PV} (hp : PvOk bl sz m id p k) (v : Value) :
    takeR ⟨true, id, []⟩ p (pieceL bl sz k) v = (27, false, [], ⟨true, id, []⟩) := by
  have hr := hp.right
  obtain ⟨h1, h2, h3, h4, h5, h6, h7⟩ := hp
  have hL : lookE ⟨true, id, []⟩ p = 27 := by
    unfold lookE
    rw [if_neg (by rw [hr]; decide), if_neg (by simp [h1]), if_pos (by simp)]
  unfold takeR
  rw [hL]
  rfl
/-- What a body's number is behind pieces of elder ones. -/
theorem take_elder {J : PjM} {p : PV} {tp : List Int} {v : Value} {id : Int} (hJ : J.began = false ∨ J.id < id) (hp : p.id < id) : (takeR J p tp v).2.2.2.began = false ∨ (takeR J p tp v).2.2.2.id < id := by
  unfold takeR
  have hn : (nextJ J p).began = false ∨ (nextJ J p).id < id := by
    unfold nextJ
    split
    · exact .inr hp
    · exact hJ
  have hk : (keepJ (nextJ J p) p.at_.toNat tp v).began = false ∨ (keepJ (nextJ J p) p.at_.toNat tp v).id < id := by
    unfold keepJ
    split
    · exact hn
    · split
      · rcases hn with h | h
        · right
          unfold nextJ at h ⊢
          split at h
          · cases h
          · rename_i h2
            simp [h] at h2
        · exact .inr h
      · exact hn
  have hd : (keepJ (nextJ J p) p.at_.toNat tp v).began = true := by
    have : (nextJ J p).began = true := by
      unfold nextJ
      split
      · rfl
      · rename_i h2
        simp at h2
        exact h2.1
    unfold keepJ
    split
    · exact this
    · split
      · rfl
      · exact this
  split
  · split
    · split
      · exact hk
      · rcases hk with h | h
        · rw [hd] at h; cases h
        · exact .inr h
    · exact hk
  · exact hJ
/-- Pieces of one body, each once, in whatever order. -/
structure PcsOk (bl : List Int) (sz m : Nat) (id : Int) (l : List PcV) : Prop where
  len : l.length = m
  is : ∀ (i : Nat) (x : PcV), l[i]? = some x → x.id = id ∧ x.many = m ∧ ∃ k : Nat, x.at_ = k ∧ k < m ∧ x.l = pieceL bl sz k
  inj : ∀ (i j : Nat) (x y : PcV), l[i]? = some x → l[j]? = some y → x.at_ = y.at_ → i = j
theorem PcsOk.start {bl : List Int} {sz m : Nat} {id : Int} {l : List PcV} (hl : l.length = m) (hx : ∀ (k : Nat) (x : PcV), l[k]? = some x → x.id = id ∧ x.at_ = k ∧ x.many = m ∧ x.l = pieceL bl sz k) : PcsOk bl sz m id l := by
  refine ⟨hl, fun i x hi => ?_, fun i j x y hi hj e => ?_⟩
  · obtain ⟨h1, h2, h3, h4⟩ := hx i x hi
    exact ⟨h1, h3, i, h2, by have := (List.getElem?_eq_some_iff.1 hi).1; omega, h4⟩
  · have h1 := (hx i x hi).2.1
    have h2 := (hx j y hj).2.1
    omega
theorem swap_at {l : List PcV} {a b : Nat} {x y : PcV} (ha : l[a]? = some x) (hb : l[b]? = some y) (i : Nat) : ((l.set a y).set b x)[i]? = if i = b then some x else if i = a then some y else l[i]? := by
  have h1 := (List.getElem?_eq_some_iff.1 ha).1
  have h2 := (List.getElem?_eq_some_iff.1 hb).1
  by_cases e1 : i = b
  · subst e1
    rw [if_pos rfl, List.getElem?_set_self (by rw [List.length_set]; exact h2)]
  · rw [if_neg e1, List.getElem?_set_ne (by omega)]
    by_cases e2 : i = a
    · subst e2
      rw [if_pos rfl, List.getElem?_set_self h1]
    · rw [if_neg e2, List.getElem?_set_ne (by omega)]
theorem PcsOk.swap {bl : List Int} {sz m : Nat} {id : Int} {l : List PcV} (h : PcsOk bl sz m id l) {a b : Nat} {x y : PcV} (ha : l[a]? = some x) (hb : l[b]? = some y) : PcsOk bl sz m id ((l.set a y).set b x) := by
  refine ⟨by rw [List.length_set, List.length_set]; exact h.len, fun i z hi => ?_, fun i j z t hi hj e => ?_⟩
  · rw [swap_at ha hb] at hi
    split at hi
    · cases hi; exact h.is a _ ha
    · split at hi
      · cases hi; exact h.is b _ hb
      · exact h.is i z hi
  · rw [swap_at ha hb] at hi hj
    have key : ∀ i (z : PcV), (if i = b then some x else if i = a then some y else l[i]?) = some z → l[if i = b then a else if i = a then b else i]? = some z := fun i z hz => by
      split at hz
      · cases hz; rename_i e1; rw [if_pos e1]; exact ha
      · rename_i e1
        rw [if_neg e1]
        split at hz
        · cases hz; rename_i e2; rw [if_pos e2]; exact hb
        · rename_i e2; rw [if_neg e2]; exact hz
    have := h.inj _ _ _ _ (key i z hi) (key j t hj) e
    split at this <;> split at this <;> (try split at this) <;> (try split at this) <;> omega
end Go.Proofs.Ytlgcpfeaecpocaa
