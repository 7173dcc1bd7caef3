/-
  Cuts of a row of entries; the program's put, fitting.
  The program's Updates.
-/
import Derived.Test.YtioeaknhcfkfcaaBu13
namespace Go.Proofs.Ytioeaknhcfkfcaa
open Go.RowKit

section
variable (t : TypeId) (hu : Try.prog.underlying t = some (.slice (Try.prog.elem t))) (hs : ∀ w, ((sizeOf (Try.prog.elem t)).run Try.prog w) = .ok 22 w)
include hu hs
theorem cut_to (a : Option Addr) (n c k : Nat) (hk : k ≤ c) : ∀ w, (Instr.slice t (.slice a n c) none (some (.int .i64 k)) none).run Try.prog w = .ok (.slice a k c) w := fun w => by
  rw [run_slice_h w t a n c hu .i64 k (by omega) (by omega), hs]
  simp only [Result.andThen, sliced, Int.toNat_natCast, Nat.zero_mul, Nat.sub_zero]
  split
  · rfl
  · cases a with
    | none => rfl
    | some x => simp [Addr.add]
theorem cut_from (a : Option Addr) (n c k : Nat) (hk : k ≤ n) : ∃ a2, (∀ w, (Instr.slice t (.slice a n c) (some (.int .i64 k)) none none).run Try.prog w = .ok (.slice a2 (n - k) (c - k)) w) ∧ (c ≠ k → a2 = a.map (·.add (k * 22))) := by
  refine ⟨if c = k then a else a.map (·.add (k * 22)), fun w => ?_, fun h => if_neg h⟩
  rw [run_slice_l w t a n c hu .i64 k (by omega) (by omega), hs]
  simp only [Result.andThen, sliced, Int.toNat_natCast]
theorem cut_mid (a : Option Addr) (n c k m : Nat) (hk : k ≤ m) (hm : m ≤ c) : ∃ a2, (∀ w, (Instr.slice t (.slice a n c) (some (.int .i64 k)) (some (.int .i64 m)) none).run Try.prog w = .ok (.slice a2 (m - k) (c - k)) w) ∧ (c ≠ k → a2 = a.map (·.add (k * 22))) := by
  refine ⟨if c = k then a else a.map (·.add (k * 22)), fun w => ?_, fun h => if_neg h⟩
  rw [run_slice_lh w t a n c hu .i64 .i64 k m (by omega) (by omega) (by omega), hs]
  simp only [Result.andThen, sliced, Int.toNat_natCast]
end
/-- The entries from the k-th on. -/
def sh (f : Nat → E3) (k : Nat) : Nat → E3 := fun i => f (k + i)
theorem HoldsE.mono {w : World} {M M' n : Nat} {a : Option Addr} {f : Nat → E3} (h : HoldsE w M a n f) (hM : M ≤ M') : HoldsE w M' a n f :=
  ⟨fun i hi => by
    have e := h.e i hi
    exact ⟨e.l, e.b, e.e, e.s, e.wn, e.pn, e.hw, e.hp, fun b hb => Nat.lt_of_lt_of_le (e.wb b hb) hM, fun b hb => Nat.lt_of_lt_of_le (e.pb b hb) hM⟩, fun i hi => by
    obtain ⟨b, off, e1, e2, e3, e4⟩ := h.c i hi
    exact ⟨b, off, e1, Nat.lt_of_lt_of_le e2 hM, e3, e4⟩⟩
theorem HoldsE.grow {w w' : World} {n : Nat} {a : Option Addr} {f : Nat → E3} (h : HoldsE w w.heap.size a n f) (hb : Below w.heap.size w w') : HoldsE w' w'.heap.size a n f := (h.keep hb).mono hb.size
theorem HoldsE.take {w : World} {M n m : Nat} {a : Option Addr} {f : Nat → E3} (h : HoldsE w M a n f) (hm : m ≤ n) : HoldsE w M a m f := ⟨fun i hi => h.e i (by omega), fun i hi => h.c i (by omega)⟩
theorem HoldsE.from {w : World} {M n k : Nat} {a a2 : Option Addr} {f : Nat → E3} (h : HoldsE w M a n f) (h2 : k < n → a2 = a.map (·.add (k * 22))) : HoldsE w M a2 (n - k) (sh f k) :=
  ⟨fun i hi => h.e (k + i) (by omega), fun i hi => by
    obtain ⟨b, off, e1, e2, e3, e4⟩ := h.c (k + i) (by omega)
    refine ⟨b, off + k * 22, ?_, e2, e3, ?_⟩
    · rw [h2 (by omega), e1, Option.map_some, add_off]
    · show w.rangeAt b (off + k * 22 + i * 22) (ec (f (k + i)).1)
      rw [show off + k * 22 + i * 22 = off + (k + i) * 22 by omega]
      exact e4⟩
theorem HoldsW.take {w : World} {M n m : Nat} {a : Option Addr} {f : Nat → E3} (h : HoldsW w M a n f) (hm : m ≤ n) : HoldsW w M a m f := ⟨fun i hi => h.e i (by omega), fun i hi => h.c i (by omega)⟩
theorem HoldsW.from {w : World} {M n k : Nat} {a a2 : Option Addr} {f : Nat → E3} (h : HoldsW w M a n f) (h2 : k < n → a2 = a.map (·.add (k * 22))) : HoldsW w M a2 (n - k) (sh f k) :=
  ⟨fun i hi => h.e (k + i) (by omega), fun i hi => by
    obtain ⟨b, off, e1, e2, e3, e4⟩ := h.c (k + i) (by omega)
    refine ⟨b, off + k * 22, ?_, e2, e3, ?_⟩
    · rw [h2 (by omega), e1, Option.map_some, add_off]
    · show w.rangeAt b (off + k * 22 + i * 22) (ec (f (k + i)).1)
      rw [show off + k * 22 + i * 22 = off + (k + i) * 22 by omega]
      exact e4⟩
theorem sh_sh (f : Nat → E3) (k m : Nat) : sh (sh f k) m = sh f (k + m) := by funext i; unfold sh; rw [Nat.add_assoc]
theorem sh_0 (f : Nat → E3) : sh f 0 = f := by funext i; unfold sh; rw [Nat.zero_add]
/-- How many of the entries the next update takes: k may be taken still, m are. -/
def fitGo (u : Bool) (f : Nat → E3) (most : Int) : Nat → Nat → Nat
  | 0, m => m
  | k + 1, m => if ((updX u f (m + 1)).length : Int) ≤ most then fitGo u f most k (m + 1) else m
def fit (u : Bool) (f : Nat → E3) (n : Nat) (most : Int) : Nat := fitGo u f most (n - 1) 1
theorem fitGo_le (u : Bool) (f : Nat → E3) (most : Int) : ∀ k m, m ≤ fitGo u f most k m ∧ fitGo u f most k m ≤ m + k
  | 0, m => ⟨Nat.le_refl _, Nat.le_refl _⟩
  | k + 1, m => by
    unfold fitGo
    split
    · have := fitGo_le u f most k (m + 1); omega
    · omega
theorem fit_le {u : Bool} {f : Nat → E3} {n : Nat} {most : Int} (hn : 0 < n) : 1 ≤ fit u f n most ∧ fit u f n most ≤ n := by
  have := fitGo_le u f most (n - 1) 1
  unfold fit
  omega
/-- The updates of n entries from the k-th on. -/
def upds (u : Bool) (f : Nat → E3) (most : Int) (n k : Nat) : List (List Int) :=
  if h : 0 < n then
    (if 0 < (updX u (sh f k) (fit u (sh f k) n most)).length then [updX u (sh f k) (fit u (sh f k) n most)] else []) ++ upds u f most (n - fit u (sh f k) n most) (k + fit u (sh f k) n most)
  else []
termination_by n
decreasing_by have := (fit_le (u := u) (f := sh f k) (most := most) h).1; omega
/-- What put answers: an update's bytes, none if it may not be. -/
def PutPost (u : Bool) (f : Nat → E3) (n : Nat) (w : World) (r : Ending) (w' : World) : Prop :=
  ∃ a c, r = .returned (.slice a (updX u f n).length c) ∧ HoldsT w' (.slice a (updX u f n).length c) (updX u f n) ∧ Below w.heap.size w w'
set_option maxRecDepth 100000 in
set_option maxHeartbeats 4000000 in
theorem bput_any (u : Bool) (a : Option Addr) (n c : Nat) (f : Nat → E3) (w : World) (h : HoldsE w w.heap.size a n f) (hn : n ≤ 30) :
    Calls Try.prog 20 #[.slice a n c, .bool u] w (PutPost u f n w) := by
  have H := Kp.mk h
  have HN := Kp.mk hn
  clear h hn
  go_enter Try.func20, Try.ntmps20
  go_wp2_with fail
  refine (putUpdate_any u a n c f w H.out (by have := HN.out; omega)).mono ?_
  rintro r w1 ⟨v, rfl, ho, hB, hb⟩
  have HT : Kp (HoldsT w1 v (updX u f n)) := ⟨HoldsB.ofRow hB ho, Typed.own ho⟩
  have HBL := Kp.mk hb
  obtain ⟨a', n', c', rfl, hn'⟩ := HT.out.1.slice
  subst hn'
  clear ho hB hb H
  go_wp2_with fail
  go_ret
  exact ⟨a', c', rfl, HT.out, HBL.out⟩
set_option maxRecDepth 100000 in
set_option maxHeartbeats 8000000 in
theorem fitting_any (u : Bool) (a : Option Addr) (n c : Nat) (f : Nat → E3) (most : Int) (w : World) (h : HoldsE w w.heap.size a n f) (hn : n ≤ 30) (h0 : 0 < n) (hc : n ≤ c) :
    Calls Try.prog 19 #[.slice a n c, .bool u, .int .i64 most] w fun r w' => r = .returned (.int .i64 (fit u f n most)) ∧ Below w.heap.size w w' := by
  obtain ⟨A, hA⟩ : ∃ A, A = w.heap.size := ⟨_, rfl⟩
  have HAe := Kp.mk hA
  have HN := Kp.mk (And.intro hn (And.intro h0 hc))
  have S0 : Kp (HoldsE w w.heap.size a n f ∧ Below A w w ∧ A ≤ w.heap.size) := ⟨h, Below.refl _ _, by omega⟩
  have HF : Kp (fit u f n most = fitGo u f most (n - 1) 1) := ⟨rfl⟩
  have hn9 : n ≤ 9223372036854775807 := by omega
  have hcut := fun k hk => cut_to 36 Try.underlying36 (fun w => by rfl) a n c k hk
  clear h hA h0 hc
  go_enter Try.func19, Try.ntmps19
  go_wp2_with fail
  go_loopw [7] (fun ct wr => ∃ m : Nat, 1 ≤ m ∧ m ≤ n ∧ ct = .int .i64 m ∧ Kp (fitGo u f most (n - m) m = fitGo u f most (n - 1) 1) ∧ Kp (HoldsE wr wr.heap.size a n f ∧ Below A w wr ∧ A ≤ wr.heap.size)) (fun ct _ => n - (intOf ct).toNat)
  case atStart => exact ⟨1, by omega, by have := HN.out; omega, rfl, ⟨rfl⟩, S0⟩
  case round =>
    obtain ⟨m, hm1, hmn, rfl, HG, HS⟩ := hrel
    by_cases hlt : m < n
    · have hcm := hcut (m + 1) (by have := HN.out; omega)
      have hmc : (m : Int) + 1 ≤ c := by have := HN.out; omega
      have HGS : Kp (fitGo u f most (n - m) m = if ((updX u f (m + 1)).length : Int) ≤ most then fitGo u f most (n - (m + 1)) (m + 1) else m) := ⟨by
        rw [show n - m = (n - (m + 1)) + 1 by omega]; rfl⟩
      clear hcut
      go_wp2_with fail
      refine (bput_any u a (m + 1) c f wr (HS.out.1.take (by omega)) (by omega)).mono ?_
      rintro r w1 ⟨a1, c1, rfl, hT, hb⟩
      have HS1 : Kp (HoldsE w1 w1.heap.size a n f ∧ Below A w w1 ∧ A ≤ w1.heap.size) := ⟨HS.out.1.grow hb, HS.out.2.1.trans (hb.mono HS.out.2.2), Nat.le_trans HS.out.2.2 hb.size⟩
      have hl9 : (updX u f (m + 1)).length ≤ 140737488351232 := updX_len (HS.out.1.take (by omega))
      obtain ⟨ln, hln⟩ : ∃ ln, ln = (updX u f (m + 1)).length := ⟨_, rfl⟩
      rw [← hln] at HGS hl9 ⊢
      clear hT hb HS hcm hln
      by_cases hle : (ln : Int) ≤ most
      · rw [if_pos hle] at HGS
        go_wp2_with fail
        exact ⟨⟨m + 1, by omega, by omega, by go_num, ⟨HGS.out.symm.trans HG.out⟩, HS1⟩, by simp [intOf]; omega⟩
      · rw [if_neg hle] at HGS
        go_wp2_with fail
        go_ret
        exact ⟨by rw [HF.out, ← HG.out, HGS.out]; rfl, by rw [← HAe.out]; exact HS1.out.2.1⟩
    · obtain rfl : m = n := by omega
      have HGE : Kp (fitGo u f most (m - m) m = m) := ⟨by rw [Nat.sub_self]; rfl⟩
      clear hcut
      go_wp2_with fail
      go_ret
      exact ⟨by rw [HF.out, ← HG.out, HGE.out]; rfl, by rw [← HAe.out]; exact HS.out.2.1⟩
end Go.Proofs.Ytioeaknhcfkfcaa

namespace Go.Proofs.Ytioeaknhcfkfcaa
open Go.RowKit

/-- A row of texts of the call's own. -/
structure TB (w : World) (A : Nat) (v : Value) (L : List (Value × List Int)) : Prop where
  r : w.ownsRow A 39 1 v L.length (L.map (·.1))
  t : ∀ x ∈ L, HoldsT w x.1 x.2
theorem TB.nil (w : World) (A : Nat) : TB w A (.slice none 0 0) [] := ⟨World.ownsRow_nil _ _ _ _, fun x hx => by cases hx⟩
theorem TB.keep {w w' : World} {A : Nat} {v : Value} {L : List (Value × List Int)} (h : TB w A v L) (hb : Below w.heap.size w w') : TB w' A v L := ⟨ownsRow_below h.r hb, fun x hx => (h.t x hx).grow hb⟩
theorem TB.app {w w' : World} {A : Nat} {v v' : Value} {L : List (Value × List Int)} {x : Value × List Int} (h : TB w A v L) (hx : HoldsT w x.1 x.2)
    (ho : w'.ownsRow A 39 1 v' (L.length + 1) (L.map (·.1) ++ [x.1])) (hg : (w.alloc (.cells #[x.1] 39)).grownBy w' v.ownBlock) : TB w' A v' (L ++ [x]) :=
  ⟨by rw [List.length_append, List.map_append]; exact ho, fun y hy => by
    have h2 : HoldsT (w.alloc (.cells #[x.1] 39)) y.1 y.2 := by
      rcases List.mem_append.1 hy with hy | hy
      · exact (h.t y hy).grow (more (Below.refl _ _) _)
      · simp at hy; subst hy; exact hx.grow (more (Below.refl _ _) _)
    exact h2.grown (h.r.alloc _) (by decide) hg⟩
theorem TB.base {w : World} {A B : Nat} {v : Value} {L : List (Value × List Int)} (h : TB w A v L) (hB : B ≤ A) : TB w B v L := ⟨ownsRow_base h.r hB, h.t⟩
theorem upds_pos (u : Bool) (f : Nat → E3) (most : Int) (n k : Nat) (h : 0 < n) : upds u f most n k = (if 0 < (updX u (sh f k) (fit u (sh f k) n most)).length then [updX u (sh f k) (fit u (sh f k) n most)] else []) ++ upds u f most (n - fit u (sh f k) n most) (k + fit u (sh f k) n most) := by
  rw [upds, dif_pos h]
theorem upds_zero (u : Bool) (f : Nat → E3) (most : Int) (k : Nat) : upds u f most 0 k = [] := by
  rw [upds, dif_neg (by omega)]
theorem info39z : (Try.prog.info? 39).map (fun i => (i.zero, i.size, i.bytes)) = some (some (.slice none 0 0), 1, 24) := by kernel_rfl
/-- What Updates answers. -/
def UpsPost (LL : List (List Int)) (w : World) (r : Ending) (w' : World) : Prop :=
  ∃ a c L, r = .returned (.slice a (List.length L) c) ∧ TB w' w.heap.size (.slice a (List.length L) c) L ∧ L.map (·.2) = LL ∧ Below w.heap.size w w'
def lenOf : Value → Nat
  | .slice _ n _ => n
  | _ => 0
theorem upds_len (u : Bool) (f : Nat → E3) (most : Int) (k : Nat) : ∀ n, (upds u f most n k).length ≤ n := by
  intro n
  induction n using Nat.strongRecOn generalizing k with
  | ind n ih =>
    by_cases h : 0 < n
    · rw [upds_pos u f most n k h]
      have hm := fit_le (u := u) (f := sh f k) (most := most) h
      have := ih (n - fit u (sh f k) n most) (by omega) (k + fit u (sh f k) n most)
      rw [List.length_append]
      split
      · simp; omega
      · simp; omega
    · obtain rfl : n = 0 := by omega
      rw [upds_zero]
      simp
theorem HoldsE.upto {w w' : World} {B M n : Nat} {a : Option Addr} {f : Nat → E3} (h : HoldsE w M a n f) (hb : Below B w w') (hM : M ≤ B) : HoldsE w' M a n f :=
  ⟨fun i hi => by
    have e := h.e i hi
    exact ⟨e.l, e.b, e.e, e.s, e.wn, e.pn, e.hw.upto (fun _ b hb => Nat.lt_of_lt_of_le (e.wb b hb) hM) hb, e.hp.upto (fun _ b hb => Nat.lt_of_lt_of_le (e.pb b hb) hM) hb, e.wb, e.pb⟩, fun i hi => by
    obtain ⟨b, off, e1, e2, e3, e4⟩ := h.c i hi
    exact ⟨b, off, e1, e2, Nat.lt_of_lt_of_le e3 hb.size, rangeAt_keepU e4 (hb.block _ (by omega))⟩⟩
set_option maxRecDepth 100000 in
set_option maxHeartbeats 16000000 in
theorem updates_any (u : Bool) (a : Option Addr) (n c : Nat) (f : Nat → E3) (most : Int) (w : World) (h : HoldsE w w.heap.size a n f) (hn : n ≤ 30) (hc : n ≤ c) :
    Calls Try.prog 8 #[.slice a n c, .bool u, .int .i64 most] w (UpsPost (upds u f most n 0) w) := by
  obtain ⟨A, hA⟩ : ∃ A, A = w.heap.size := ⟨_, rfl⟩
  have HAe := Kp.mk hA
  have HN := Kp.mk hn
  obtain ⟨i0, hi0, hz0, hz1, hz2⟩ := info_parts info39z
  obtain ⟨TOT, hTOT⟩ : ∃ TOT, TOT = upds u f most n 0 := ⟨_, rfl⟩
  have HT0 := Kp.mk hTOT
  have HTL : Kp (TOT.length ≤ 30) := ⟨by rw [hTOT]; exact Nat.le_trans (upds_len u f most 0 n) hn⟩
  have S0 : Kp (HoldsE w A a n (sh f 0) ∧ Below A w w ∧ A ≤ w.heap.size) := ⟨by rw [sh_0, hA]; exact h, Below.refl _ _, by omega⟩
  have HC0 := Kp.mk (And.intro hc hn)
  rw [← hTOT]
  clear h hA hc hn hTOT
  go_enter Try.func8, Try.ntmps8
  go_wp2_with fail
  go_loopw [0, 7] (fun lv ov wr => ∃ (k n1 c1 : Nat) (a1 : Option Addr) (oa : Option Addr) (on oc : Nat) (L : List (Value × List Int)), k + n1 = n ∧ lv = .slice a1 n1 c1 ∧ ov = .slice oa on oc ∧ Kp (TB wr A (.slice oa on oc) L) ∧ Kp (L.map (·.2) ++ upds u f most n1 k = TOT) ∧ Kp (HoldsE wr A a1 n1 (sh f k) ∧ Below A w wr ∧ A ≤ wr.heap.size) ∧ Kp (n1 ≤ c1 ∧ n1 ≤ 30)) (fun lv _ _ => lenOf lv)
  case atStart => exact ⟨0, n, c, a, none, 0, 0, [], by omega, rfl, rfl, ⟨TB.nil _ _⟩, ⟨by rw [← HT0.out]; rfl⟩, S0, HC0⟩
  case round =>
    obtain ⟨k, n1, c1, a1, oa, on, oc, L, hk, rfl, rfl, HB, HTOT, HS, HC⟩ := hrel
    by_cases hlt : 0 < n1
    · have HLT := Kp.mk hlt
      have hn9 : n1 ≤ 9223372036854775807 := by have := HC.out; omega
      have HUP := Kp.mk (upds_pos u f most n1 k hlt)
      have hfit := fit_le (u := u) (f := sh f k) (most := most) hlt
      go_wp2_with fail
      refine (fitting_any u a1 n1 c1 (sh f k) most wr (HS.out.1.mono HS.out.2.2) HC.out.2 hlt HC.out.1).mono ?_
      rintro r w1 ⟨rfl, hb⟩
      obtain ⟨m, hm⟩ : ∃ m, m = fit u (sh f k) n1 most := ⟨_, rfl⟩
      rw [← hm] at HUP hfit ⊢
      have HM := Kp.mk hfit
      have HS1 : Kp (HoldsE w1 A a1 n1 (sh f k) ∧ Below A w w1 ∧ A ≤ w1.heap.size) := ⟨HS.out.1.keep hb, HS.out.2.1.trans (hb.mono HS.out.2.2), Nat.le_trans HS.out.2.2 hb.size⟩
      have HB1 := Kp.mk (HB.out.keep hb)
      have hcm := cut_to 36 Try.underlying36 (fun w => by rfl) a1 n1 c1 m (by have := HC.out; omega)
      have hmc : (m : Int) ≤ c1 := by have := HC.out; omega
      clear hb HS HB hm hfit
      go_wp2_with fail
      refine (bput_any u a1 m c1 (sh f k) w1 ((HS1.out.1.take HM.out.2).mono HS1.out.2.2) (by have := HM.out; have := HC.out; omega)).mono ?_
      rintro r w2 ⟨a2, c2, rfl, hT, hb⟩
      have HX2 := Kp.mk (updX_len (u := u) (HS1.out.1.take HM.out.2))
      obtain ⟨X, hX⟩ : ∃ X, X = updX u (sh f k) m := ⟨_, rfl⟩
      rw [← hX] at HUP hT HX2 ⊢
      obtain ⟨ln, hln⟩ : ∃ ln, ln = X.length := ⟨_, rfl⟩
      rw [← hln] at HUP hT HX2 ⊢
      have HXN := Kp.mk hT
      have HS2 : Kp (HoldsE w2 A a1 n1 (sh f k) ∧ Below A w w2 ∧ A ≤ w2.heap.size) := ⟨HS1.out.1.keep hb, HS1.out.2.1.trans (hb.mono HS1.out.2.2), Nat.le_trans HS1.out.2.2 hb.size⟩
      have HB2 := Kp.mk (HB1.out.keep hb)
      have hl9 : ln ≤ 9223372036854775807 := by have := HX2.out; omega
      have hmn : (m : Int) ≤ n1 := by have := HM.out; omega
      obtain ⟨a3, hcf, ha3⟩ := cut_from 36 Try.underlying36 (fun w => by rfl) a1 n1 c1 m HM.out.2
      have HA3 := Kp.mk ha3
      clear hT hb HS1 HB1 hX hln hcm hmc ha3
      by_cases hl0 : 0 < ln
      · rw [if_pos hl0] at HUP
        have HLL : Kp (L.length < 30) := ⟨by
          have h1 := congrArg List.length HTOT.out
          rw [HUP.out] at h1
          simp at h1
          have := HTL.out
          omega⟩
        obtain rfl : on = L.length := ownsRow_len HB2.out.r
        go_wp2_with (at_builtin; refine wpList_append_own _ rfl _ _ 34 rfl A 39 i0 (.slice none 0 0) 1 24 Try.underlying34 hi0 hz0 hz1 hz2 rfl (by decide) _ L.length (L.map (·.1)) rfl (HB2.out.r.alloc _) ⟨w2.heap.size, 0, none⟩ 1 1 [.slice a2 ln c2] rfl rfl ?c1 ?c2 ?c3 ?c4 ?c5 ?_)
        case c1 =>
          intro j x hj
          match j, hj with
          | 0, hj => simp at hj; subst hj; simp [Addr.add]
        case c2 =>
          intro x hx
          simp at hx
          subst hx
          rfl
        case c3 => have := HLL.out; unfold maxLen; omega
        case c4 => have := HLL.out; omega
        case c5 => have := HS2.out.2.2; simp; omega
        · intro v' w5 hown' hgrow _
          obtain ⟨a9, n9, c9, rfl⟩ : ∃ a n c, v' = .slice a n c := by rcases hown'.2 with ⟨e9, _⟩ | ⟨g, cap, cur, e9, _⟩ <;> exact ⟨_, _, _, e9⟩
          have HB5 := Kp.mk (HB2.out.app (x := (.slice a2 ln c2, X)) HXN.out hown' hgrow)
          have HE5 : Kp (Below A w2 w5) := ⟨below_row_grown ((Below.refl _ _).alloc HS2.out.2.2 _) (by have := HS2.out.2.2; simp; omega) (HB2.out.r.alloc _) hgrow⟩
          have HS5 : Kp (HoldsE w5 A a3 (n1 - m) (sh f (k + m)) ∧ Below A w w5 ∧ A ≤ w5.heap.size) := ⟨by
            rw [← sh_sh]
            exact (HS2.out.1.upto HE5.out (Nat.le_refl _)).from (fun h9 => HA3.out (by have := HC.out; omega)), HS2.out.2.1.trans HE5.out, Nat.le_trans HS2.out.2.2 HE5.out.size⟩
          have HT5 : Kp ((L ++ [((.slice a2 ln c2 : Value), X)]).map (·.2) ++ upds u f most (n1 - m) (k + m) = TOT) := ⟨by rw [← HTOT.out, HUP.out]; simp⟩
          clear hown' hgrow HS2 HB2 HE5
          go_wp2_with fail
          exact ⟨⟨k + m, n1 - m, c1 - m, a3, _, _, _, _, by have := HM.out; omega, rfl, rfl, HB5, HT5, HS5, ⟨by have := HM.out; have := HC.out; omega, by have := HC.out; omega⟩⟩, by have := HM.out; simp [lenOf]; omega⟩
      · rw [if_neg hl0] at HUP
        have hl1 : ln = 0 := by omega
        have HS5 : Kp (HoldsE w2 A a3 (n1 - m) (sh f (k + m)) ∧ Below A w w2 ∧ A ≤ w2.heap.size) := ⟨by
          rw [← sh_sh]
          exact HS2.out.1.from (fun h9 => HA3.out (by have := HC.out; omega)), HS2.out.2.1, HS2.out.2.2⟩
        have HT5 : Kp (L.map (·.2) ++ upds u f most (n1 - m) (k + m) = TOT) := ⟨by rw [← HTOT.out, HUP.out]; simp⟩
        clear hl1 HS2
        go_wp2_with fail
        exact ⟨⟨k + m, n1 - m, c1 - m, a3, _, _, _, L, by have := HM.out; omega, rfl, rfl, HB2, HT5, HS5, ⟨by have := HM.out; have := HC.out; omega, by have := HC.out; omega⟩⟩, by have := HM.out; simp [lenOf]; omega⟩
    · obtain rfl : n1 = 0 := by omega
      have hz : (upds u f most 0 k) = [] := upds_zero _ _ _ _
      rw [hz, List.append_nil] at HTOT
      obtain rfl : on = L.length := ownsRow_len HB.out.r
      clear hz
      go_wp2_with fail
      go_ret
      exact ⟨oa, oc, L, rfl, by rw [← HAe.out]; exact HB.out, HTOT.out, by rw [← HAe.out]; exact HS.out.2.1⟩
end Go.Proofs.Ytioeaknhcfkfcaa
