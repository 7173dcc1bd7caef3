/-
  The two joiners go together.
-/
import Derived.Test.YtlgcpfeaecpocaaPlG
namespace Go.Proofs.Ytlgcpfeaecpocaa
open Go.RowKit

theorem findP_add (l : List PcV) (x : PcV) (k : Int) : findP (l ++ [x]) k = match findP l k with | some y => some y | none => if x.at_ = k then some x else none := by
  unfold findP
  rw [List.find?_append]
  cases List.find? (fun x => decide (x.at_ = k)) l with
  | some y => rfl
  | none =>
    by_cases h : x.at_ = k
    · simp [h]
    · simp [h]
theorem lens_none (m : Nat) : lens (List.replicate m noPt) = 0 := by
  unfold lens
  rw [List.map_replicate]
  induction m with
  | zero => rfl
  | succ m ih => rw [List.replicate_succ, List.sum_cons, ih]; rfl
/-- Both have a body under way. -/
structure JOn (J : PjM) (R : RJ) : Prop where
  b : J.began = true
  a : R.any = true
  o : R.over = false
  id : J.id = R.id
  m : R.many = J.ps.length
  h : haves J.ps = R.ps.length
  lt : R.ps.length < J.ps.length
  le : J.ps.length ≤ 32
  l : lens J.ps = lensR R.ps
  f : ∀ (k : Nat) (x : PtV), J.ps[k]? = some x → x.there = (findP R.ps k).isSome ∧ x.l = textAt R.ps k
  s : ∀ x ∈ R.ps, x.l.length ≤ 4096
theorem JOn.jr {J : PjM} {R : RJ} (h : JOn J R) : JR J R :=
  ⟨by rw [h.b, h.a], fun _ => h.id, (fun e => by rw [h.a] at e; cases e), (fun _ e => by rw [h.o] at e; cases e), fun _ _ => ⟨h.m, h.h, h.lt, h.l, h.f⟩, by have := h.lt; have := h.le; omega, h.s, by have := h.m; have := h.le; omega⟩
theorem JOn.over {J : PjM} {R : RJ} (h : JOn J R) : JR ⟨true, J.id, []⟩ { R with over := true } :=
  ⟨by rw [← h.a], fun _ => h.id, (fun e => by rw [h.a] at e; cases e), fun _ _ => ⟨rfl, by have := h.lt; have := h.le; simp only []; omega⟩, (fun _ e => by cases e), by have := h.lt; have := h.le; simp only []; omega, h.s, by have := h.m; have := h.le; simp only []; omega⟩
theorem JOn.start (id : Int) {m : Nat} (h : 1 ≤ m ∧ m ≤ 32) : JOn ⟨true, id, List.replicate m noPt⟩ ⟨true, false, id, m, []⟩ := by
  refine ⟨rfl, rfl, rfl, rfl, by simp, by rw [haves_none]; rfl, by simp; omega, by simp; omega, by rw [lens_none]; rfl, fun k x hx => ?_, fun x hx => by cases hx⟩
  rw [List.eq_of_mem_replicate (List.mem_of_getElem? hx)]
  exact ⟨rfl, rfl⟩
theorem texts_body {ps : List PtV} {l : List PcV} (h : ∀ (k : Nat) (x : PtV), ps[k]? = some x → x.l = textAt l k) : ∀ i, i ≤ ps.length → texts (ps.take i) = bodyR l i := by
  intro i
  induction i with
  | zero => intro _; simp [texts, bodyR]
  | succ i ih =>
    intro hi
    rw [texts_succ (by omega : i < ps.length), ih (by omega), h i _ (List.getElem?_eq_getElem (by omega))]
    rfl
def Alike (a : Int × Bool × List Int × PjM) (b : Int × Bool × List Int × RJ) : Prop := a.1 = b.1 ∧ a.2.1 = b.2.1 ∧ a.2.2.1 = b.2.2.1 ∧ JR a.2.2.2 b.2.2.2
theorem JOn.keep {J : PjM} {R : RJ} (h : JOn J R) {p : PV} {tp : List Int} (hn : p.n = tp.length) (hr : 0 ≤ p.at_ ∧ p.at_ < R.many ∧ p.n ≤ 4096) (v : Value) :
    Alike (if keepE J p.at_.toNat tp = 0 then
      if haves (keepJ J p.at_.toNat tp v).ps < (keepJ J p.at_.toNat tp v).ps.length then (0, false, [], keepJ J p.at_.toNat tp v)
      else (0, true, texts (keepJ J p.at_.toNat tp v).ps, ⟨true, (keepJ J p.at_.toNat tp v).id, []⟩)
    else (keepE J p.at_.toNat tp, false, [], keepJ J p.at_.toNat tp v))
    (if (findP R.ps p.at_).isSome = true then (if textAt R.ps p.at_ ≠ tp then (7, false, [], R) else (0, false, [], R))
      else if 16384 < tp.length + lensR R.ps then (8, false, [], { R with over := true })
      else if (R.ps.length : Int) + 1 < R.many then (0, false, [], addR R p tp)
      else (0, true, bodyR (addR R p tp).ps (addR R p tp).many.toNat, { addR R p tp with over := true })) := by
  obtain ⟨k, hk⟩ : ∃ k : Nat, p.at_ = k := ⟨p.at_.toNat, by omega⟩
  have hkl : k < J.ps.length := by have := h.m; omega
  have hx := List.getElem?_eq_getElem hkl
  obtain ⟨hf1, hf2⟩ := h.f k _ hx
  have hg : J.ps.getD p.at_.toNat noPt = J.ps[k] := by rw [hk, Int.toNat_natCast, List.getD_eq_getElem?_getD, hx]; rfl
  have hkt : p.at_.toNat = k := by omega
  rw [← hk] at hf1 hf2
  cases hs : (findP R.ps p.at_).isSome with
  | true =>
    rw [hs] at hf1
    rw [if_pos rfl]
    have e1 : keepE J p.at_.toNat tp = if textAt R.ps p.at_ = tp then 0 else 7 := by unfold keepE; rw [hg, if_pos hf1, hf2]
    have e2 : keepJ J p.at_.toNat tp v = J := by unfold keepJ; rw [hg, if_pos hf1]
    rw [e1, e2]
    by_cases he : textAt R.ps p.at_ = tp
    · rw [if_pos he, if_pos rfl, if_pos (by rw [h.h]; exact h.lt), if_neg (fun hne => hne he)]
      exact ⟨rfl, rfl, rfl, h.jr⟩
    · rw [if_neg he, if_neg (show ¬ (7 : Int) = 0 by decide), if_pos he]
      exact ⟨rfl, rfl, rfl, h.jr⟩
  | false =>
    rw [hs] at hf1
    rw [if_neg (show ¬ (false = true) by decide)]
    have hft : ¬ (J.ps[k]).there = true := by rw [hf1]; decide
    have e1 : keepE J p.at_.toNat tp = if 16384 < tp.length + lensR R.ps then 8 else 0 := by unfold keepE; rw [hg, if_neg hft, h.l, Nat.add_comm]
    have e2 : keepJ J p.at_.toNat tp v = if 16384 < tp.length + lensR R.ps then ⟨true, J.id, []⟩ else { J with ps := J.ps.set k ⟨true, v, tp⟩ } := by unfold keepJ; rw [hg, if_neg hft, h.l, Nat.add_comm, hkt]
    rw [e1, e2]
    by_cases hb : 16384 < tp.length + lensR R.ps
    · rw [if_pos hb, if_pos hb, if_neg (show ¬ (8 : Int) = 0 by decide), if_pos hb]
      exact ⟨rfl, rfl, rfl, h.over⟩
    · rw [if_neg hb, if_neg hb, if_pos rfl, if_neg hb]
      have hnone : findP R.ps p.at_ = none := by cases hq : findP R.ps p.at_ with | none => rfl | some y => rw [hq] at hs; cases hs
      have hfa : ∀ j : Nat, findP (addR R p tp).ps j = if (j : Int) = p.at_ then some (pcvOf p tp) else findP R.ps j := fun j => by
        unfold addR
        simp only []
        rw [findP_add]
        by_cases hj : (j : Int) = p.at_
        · rw [if_pos hj, hj, hnone]
          simp [pcvOf]
        · rw [if_neg hj]
          cases findP R.ps j with
          | some y => rfl
          | none => simp only []; rw [if_neg (by show ¬ p.at_ = (j : Int); omega)]
      have hpl : (J.ps[k]).l = [] := by rw [hf2]; unfold textAt; rw [hnone]
      have hff : ∀ (j : Nat) (x : PtV), (J.ps.set k ⟨true, v, tp⟩)[j]? = some x → x.there = (findP (addR R p tp).ps j).isSome ∧ x.l = textAt (addR R p tp).ps j := fun j x hj => by
        unfold textAt
        rw [hfa j]
        rw [List.getElem?_set] at hj
        split at hj
        · rename_i e
          subst e
          rw [if_pos hk.symm]
          simp only [Option.some.injEq] at hj
          subst hj
          exact ⟨rfl, rfl⟩
        · rename_i e
          rw [if_neg (by omega)]
          exact h.f j x hj
      have hh : haves (J.ps.set k ⟨true, v, tp⟩) = R.ps.length + 1 := by rw [haves_set hx (by simpa using hft) rfl, h.h]
      have hlen : (addR R p tp).ps.length = R.ps.length + 1 := by unfold addR; simp
      have hls : lens (J.ps.set k ⟨true, v, tp⟩) = lensR (addR R p tp).ps := by
        rw [lens_set (y := ⟨true, v, tp⟩) hx hpl, h.l]
        unfold addR lensR
        simp [pcvOf]
      have hsm : ∀ x ∈ (addR R p tp).ps, x.l.length ≤ 4096 := fun x hx => by
        unfold addR at hx
        rcases List.mem_append.1 hx with hx | hx
        · exact h.s x hx
        · rw [List.mem_singleton.1 hx]; show tp.length ≤ 4096; omega
      simp only [List.length_set]
      rw [hh]
      by_cases hc : (R.ps.length : Int) + 1 < R.many
      · rw [if_pos (by have := h.m; omega), if_pos hc]
        exact ⟨rfl, rfl, rfl, JOn.jr ⟨h.b, h.a, h.o, h.id, by rw [List.length_set]; exact h.m, by rw [hh, hlen], by rw [hlen, List.length_set]; have := h.m; omega, by rw [List.length_set]; exact h.le, hls, hff, hsm⟩⟩
      · have hlt := h.lt
        rw [if_neg (by have := h.m; omega), if_neg hc]
        refine ⟨rfl, rfl, ?_, ?_⟩
        · have := texts_body (fun j x hj => (hff j x hj).2) J.ps.length (by rw [List.length_set]; omega)
          rw [List.take_of_length_le (by rw [List.length_set]; omega)] at this
          have hm2 : (addR R p tp).many.toNat = J.ps.length := by have := h.m; show R.many.toNat = _; omega
          simp only []
          rw [this, hm2]
        · exact ⟨by rw [show ({ addR R p tp with over := true } : RJ).any = R.any from rfl, h.a], fun _ => h.id, (fun e => by rw [show ({ addR R p tp with over := true } : RJ).any = R.any from rfl, h.a] at e; cases e), fun _ _ => ⟨rfl, by have := h.le; show (addR R p tp).ps.length ≤ 32; rw [hlen]; omega⟩, (fun _ e => by cases e), by show (addR R p tp).ps.length ≤ 32; rw [hlen]; have := h.le; omega, hsm, by show R.many ≤ 32; have := h.m; have := h.le; omega⟩
theorem JR.step {J : PjM} {R : RJ} (h : JR J R) {p : PV} {tp : List Int} (hn : p.n = tp.length) (v : Value) : Alike (takeR J p tp v) (rtakeR R p tp) := by
  unfold takeR rtakeR
  cases hr : rightB p with
  | false =>
    have hL : lookE J p = 1 := by unfold lookE; rw [if_pos hr]
    rw [hL, if_neg (show ¬ (1 : Int) = 0 by decide), if_pos rfl]
    exact ⟨rfl, rfl, rfl, h⟩
  | true =>
    have hrr := rightB_is hr
    rw [if_neg (by decide : ¬ (true = false))]
    obtain ⟨m, hm⟩ : ∃ m : Nat, p.many = m := ⟨p.many.toNat, by omega⟩
    have hnew : (J.began = false ∨ J.id < p.id) → (R.any = false ∨ R.id < p.id) → ¬ (R.any = true ∧ (p.id < R.id ∨ p.id = R.id ∧ R.over = true)) →
        Alike (if lookE J p = 0 then
          if keepE (nextJ J p) p.at_.toNat tp = 0 then
            if haves (keepJ (nextJ J p) p.at_.toNat tp v).ps < (keepJ (nextJ J p) p.at_.toNat tp v).ps.length then (0, false, [], keepJ (nextJ J p) p.at_.toNat tp v)
            else (0, true, texts (keepJ (nextJ J p) p.at_.toNat tp v).ps, ⟨true, (keepJ (nextJ J p) p.at_.toNat tp v).id, []⟩)
          else (keepE (nextJ J p) p.at_.toNat tp, false, [], keepJ (nextJ J p) p.at_.toNat tp v)
        else (lookE J p, false, [], J))
        (if R.any = true ∧ (p.id < R.id ∨ p.id = R.id ∧ R.over = true) then (27, false, [], R)
          else if p.many ≠ (nextR R p).many then (10, false, [], nextR R p)
          else if (findP (nextR R p).ps p.at_).isSome = true then (if textAt (nextR R p).ps p.at_ ≠ tp then (7, false, [], nextR R p) else (0, false, [], nextR R p))
          else if 16384 < tp.length + lensR (nextR R p).ps then (8, false, [], { nextR R p with over := true })
          else if ((nextR R p).ps.length : Int) + 1 < (nextR R p).many then (0, false, [], addR (nextR R p) p tp)
          else (0, true, bodyR (addR (nextR R p) p tp).ps (addR (nextR R p) p tp).many.toNat, { addR (nextR R p) p tp with over := true })) := by
      intro h1 h2 h3
      have hb : (!J.began || decide (J.id < p.id)) = true := by rcases h1 with a | a <;> simp [a]
      have hL : lookE J p = 0 := by unfold lookE; rw [if_neg (by rw [hr]; decide), if_pos hb]
      have hN : nextJ J p = ⟨true, p.id, List.replicate m noPt⟩ := by unfold nextJ; rw [if_pos hb, hm, Int.toNat_natCast]
      have hR : nextR R p = ⟨true, false, p.id, m, []⟩ := by unfold nextR; rw [if_pos h2, hm]
      rw [hL, if_pos rfl, if_neg h3, hN, hR, if_neg (show ¬ p.many ≠ (m : Int) by omega)]
      exact (JOn.start p.id (m := m) (by omega)).keep hn (show 0 ≤ p.at_ ∧ p.at_ < (m : Int) ∧ p.n ≤ 4096 by omega) v
    cases ha : R.any with
    | false =>
      have hb : J.began = false := by rw [h.any, ha]
      have := hnew (.inl hb) (.inl ha) (by rw [ha]; rintro ⟨a, -⟩; cases a)
      rw [ha] at this
      exact this
    | true =>
      have hid := h.id ha
      have hb : J.began = true := by rw [h.any, ha]
      by_cases h1 : R.id < p.id
      · have := hnew (.inr (by omega)) (.inr h1) (by rintro ⟨-, a | ⟨a, -⟩⟩ <;> omega)
        rw [ha] at this
        exact this
      · have hnb : ¬ (!J.began || decide (J.id < p.id)) = true := by simp [hb]; omega
        have hN : nextJ J p = J := by unfold nextJ; rw [if_neg hnb]
        have hR : nextR R p = R := by unfold nextR; rw [if_neg (by rw [ha]; rintro (a | a); cases a; omega)]
        by_cases h2 : p.id < R.id
        · have hL : lookE J p = 27 := by unfold lookE; rw [if_neg (by rw [hr]; decide), if_neg hnb, if_pos (by omega)]
          rw [hL, if_neg (show ¬ (27 : Int) = 0 by decide), if_pos ⟨rfl, .inl h2⟩]
          exact ⟨rfl, rfl, rfl, h⟩
        · have he : p.id = R.id := by omega
          cases ho : R.over with
          | true =>
            have hL : lookE J p = 27 := by unfold lookE; rw [if_neg (by rw [hr]; decide), if_neg hnb, if_pos (.inr (by rw [(h.over ha ho).1]; rfl))]
            rw [hL, if_neg (show ¬ (27 : Int) = 0 by decide), if_pos ⟨rfl, .inr ⟨he, rfl⟩⟩]
            exact ⟨rfl, rfl, rfl, h⟩
          | false =>
            obtain ⟨o1, o2, o3, o4, o5⟩ := h.on ha ho
            have hon : JOn J R := ⟨hb, ha, ho, hid, o1, o2, o3, by have := h.small.2.2; omega, o4, o5, h.small.2.1⟩
            rw [if_neg (show ¬ (true = true ∧ (p.id < R.id ∨ p.id = R.id ∧ false = true)) by rintro ⟨-, a | ⟨-, a⟩⟩; omega; cases a), hR, hN]
            by_cases hmm : p.many = R.many
            · have hL : lookE J p = 0 := by unfold lookE; rw [if_neg (by rw [hr]; decide), if_neg hnb, if_neg (by omega), if_pos (by omega)]
              rw [hL, if_pos rfl, if_neg (show ¬ p.many ≠ R.many from fun hne => hne hmm)]
              exact hon.keep hn (by omega) v
            · have hL : lookE J p = 10 := by unfold lookE; rw [if_neg (by rw [hr]; decide), if_neg hnb, if_neg (by omega), if_neg (by omega)]
              rw [hL, if_neg (show ¬ (10 : Int) = 0 by decide), if_pos hmm]
              exact ⟨rfl, rfl, rfl, h⟩
end Go.Proofs.Ytlgcpfeaecpocaa
