/-
  Are two credentials, two updates the same?
-/
import Derived.Test.YtgabjmmmiogfjaaDoorFuM
namespace Go.Proofs.YtgabjmmmiogfjaaDoor
open Go.RowKit

/-- The cells of a credential that came in, and what its slices hold. -/
structure CredIn (W : World) (lf : List Int) (a : Option Addr) (n c : Nat) (b : Option Addr) (m d : Nat) (wl pl : List Int) : Prop where
  l : lf.length = 16
  lb : Bytes lf
  w : HoldsS W (.slice a n c) n wl
  p : HoldsS W (.slice b m d) m pl
  wn : n ≤ 1000000
  pn : m ≤ 1000000
theorem CredIn.keep {W W' : World} {lf : List Int} {a : Option Addr} {n c : Nat} {b : Option Addr} {m d : Nat} {wl pl : List Int} (h : CredIn W lf a n c b m d wl pl) (hb : Below W.heap.size W W') : CredIn W' lf a n c b m d wl pl := ⟨h.l, h.lb, h.w.keep hb, h.p.keep hb, h.wn, h.pn⟩
theorem cc_range {w : World} {A : Nat} {lf : List Int} {a : Option Addr} {n c : Nat} {b : Option Addr} {m d : Nat} (h : Blk w A (.cells (cc lf a n c b m d).toArray 103)) : w.rangeAt A 0 (bv lf) := fun j u hu => by
  rw [Nat.zero_add, h.cell j, List.getElem?_toArray]
  unfold cc
  rw [List.getElem?_append_left (by have := (List.getElem?_eq_some_iff.1 hu).1; exact this)]
  exact hu
theorem cc_cell16 {w : World} {A : Nat} {lf : List Int} {a : Option Addr} {n c : Nat} {b : Option Addr} {m d : Nat} (hl : lf.length = 16) (h : Blk w A (.cells (cc lf a n c b m d).toArray 103)) : w.cell? ⟨A, 16, none⟩ = some (.slice a n c) := (h.cell 16).trans (by rw [List.getElem?_toArray]; exact cc_16 hl _ _ _ _ _ _)
theorem cc_cell17 {w : World} {A : Nat} {lf : List Int} {a : Option Addr} {n c : Nat} {b : Option Addr} {m d : Nat} (hl : lf.length = 16) (h : Blk w A (.cells (cc lf a n c b m d).toArray 103)) : w.cell? ⟨A, 17, none⟩ = some (.slice b m d) := (h.cell 17).trans (by rw [List.getElem?_toArray]; exact cc_17 hl _ _ _ _ _ _)
set_option maxRecDepth 100000 in
set_option maxHeartbeats 8000000 in
theorem samecred_any (lf : List Int) (a : Option Addr) (n c : Nat) (b : Option Addr) (m d : Nat) (a2 : Option Addr) (c2 : Nat) (b2 : Option Addr) (d2 : Nat) (wl pl : List Int) (w : World)
    (h1 : CredIn w lf a n c b m d wl pl) (h2 : CredIn w lf a2 n c2 b2 m d2 wl pl) :
    Calls Tryd.prog 66 #[.agg (cc lf a n c b m d).toArray, .agg (cc lf a2 n c2 b2 m d2).toArray] w fun r w' => r = .returned (.bool true) ∧ Below w.heap.size w w' := by
  have hC1 := fun (w : World) => box_row (t := 103) (cs := cc lf a n c b m d) (info103s h1.l _ _ _ _ _ _) w
  have hC2 := fun (w : World) => box_row (t := 103) (cs := cc lf a2 n c2 b2 m d2) (info103s h1.l _ _ _ _ _ _) w
  obtain ⟨A, hA⟩ : ∃ A, A = w.heap.size := ⟨_, rfl⟩
  have HAe := Kp.mk hA
  have heq := eqIn42 h1.lb h1.l
  have HCL := Lib.hid (cellsL42 h1.l)
  have H0 : Kp (Blk ((w.alloc (.cells (cc lf a n c b m d).toArray 103)).alloc (.cells (cc lf a2 n c2 b2 m d2).toArray 103)) A (.cells (cc lf a n c b m d).toArray 103) ∧ Blk ((w.alloc (.cells (cc lf a n c b m d).toArray 103)).alloc (.cells (cc lf a2 n c2 b2 m d2).toArray 103)) (A + 1) (.cells (cc lf a2 n c2 b2 m d2).toArray 103) ∧ CredIn ((w.alloc (.cells (cc lf a n c b m d).toArray 103)).alloc (.cells (cc lf a2 n c2 b2 m d2).toArray 103)) lf a n c b m d wl pl ∧ CredIn ((w.alloc (.cells (cc lf a n c b m d).toArray 103)).alloc (.cells (cc lf a2 n c2 b2 m d2).toArray 103)) lf a2 n c2 b2 m d2 wl pl ∧ Below A w ((w.alloc (.cells (cc lf a n c b m d).toArray 103)).alloc (.cells (cc lf a2 n c2 b2 m d2).toArray 103))) :=
    ⟨(Blk.newAt _ hA).old _, Blk.newAt _ (by simp [hA]), (h1.keep (more (Below.refl _ _) _)).keep (more (Below.refl _ _) _), (h2.keep (more (Below.refl _ _) _)).keep (more (Below.refl _ _) _), by rw [hA]; exact more (more (Below.refl _ _) _) _⟩
  clear h1 h2
  go_enter Tryd.func66, Tryd.ntmps66
  go_wp2_with (first
    | (refine wpList_box_eq rfl 103 (.tmp 0) rfl _ rfl _ _ (hC1 _) ?_)
    | (refine wpList_box_eq rfl 103 (.tmp 1) rfl _ rfl _ _ (hC2 _) ?_; rw [show (w.alloc (.cells (cc lf a n c b m d).toArray 103)).heap.size = A + 1 from by simp [hA]]; rw [← hA]; refine wpl_world (fun W => Blk W A (.cells (cc lf a n c b m d).toArray 103) ∧ Blk W (A + 1) (.cells (cc lf a2 n c2 b2 m d2).toArray 103) ∧ CredIn W lf a n c b m d wl pl ∧ CredIn W lf a2 n c2 b2 m d2 wl pl ∧ Below A w W) H0.out ?_; rintro W hW; have ST := Kp.mk hW; have q1 := cc_cell16 hW.2.2.1.l hW.1; have q2 := cc_cell17 hW.2.2.1.l hW.1; have q3 := cc_cell16 hW.2.2.1.l hW.2.1; have q4 := cc_cell17 hW.2.2.1.l hW.2.1; clear hW H0 hC1 hC2 hA)
    | (refine wpList_load_mid rfl 40 (.tmp 5) rfl A 0 rfl (bv lf) _ (cc_range ST.out.1) Tryd.underlying40 rfl HCL.out ?_)
    | (refine wpList_load_mid rfl 40 (.tmp 7) rfl (A + 1) 0 rfl (bv lf) _ (cc_range ST.out.2.1) Tryd.underlying40 rfl HCL.out ?_))
  clear q1 q3
  refine (sames_any _ _ n wl W ST.out.2.2.1.w ST.out.2.2.2.1.w ST.out.2.2.1.wn).mono ?_
  rintro r W2 ⟨rfl, hb⟩
  have S2 : Kp (CredIn W2 lf a n c b m d wl pl ∧ CredIn W2 lf a2 n c2 b2 m d2 wl pl ∧ Below A w W2 ∧ A ≤ W2.heap.size) := ⟨ST.out.2.2.1.keep hb, ST.out.2.2.2.1.keep hb, ST.out.2.2.2.2.trans (hb.mono (Nat.le_of_lt ST.out.1.lt)), by have := ST.out.1.lt; have := hb.size; omega⟩
  have q5 := cc_cell17 ST.out.2.2.1.l (ST.out.1.keep hb)
  have q6 := cc_cell17 ST.out.2.2.1.l (ST.out.2.1.keep hb)
  clear hb q2 q4 heq ST
  go_wp2_with fail
  refine (sames_any _ _ m pl W2 S2.out.1.p S2.out.2.1.p S2.out.1.pn).mono ?_
  rintro r W3 ⟨rfl, hb⟩
  have S3 : Kp (Below w.heap.size w W3) := ⟨by rw [← HAe.out]; exact S2.out.2.2.1.trans (hb.mono S2.out.2.2.2)⟩
  clear hb q5 q6 S2
  go_wp2_with fail
  go_ret
  exact ⟨rfl, S3.out⟩
end Go.Proofs.YtgabjmmmiogfjaaDoor
