/-
  The document's Peek: its state on the way.
-/
import Derived.Test.YtgabjmmmiogfjaaDoorFrL
namespace Go.Proofs.YtgabjmmmiogfjaaDoor
open Go.RowKit

abbrev RZ26 : Obj := .cells #[.int .i64 0, .int .i64 0, .int .u64 0, .int .u64 0, .int .i64 0, .slice none 0 0] 26
/-- The document's Peek, on its way: its results stand in F and F + 1, its In in R, its frame in K. -/
structure DSt (w : World) (M F R K : Nat) (cs : Array Value) (B : List Int) (at' : Nat) (e : Int) (W : World) : Prop where
  i : RefIs W M R B at' e
  f : Blk W F RZ26
  s : Row W (F + 1) 40 .u8 (fill 16 [])
  k : Blk W K (.cells cs 26)
  below : Below F w W
  mf : M ≤ F
  fr : F + 1 < R
  rk : R < K
theorem DSt.step {w W W' : World} {M F R K a a' : Nat} {cs : Array Value} {B : List Int} {e e' : Int} (h : DSt w M F R K cs B a e W) (hs : RefStep M R B a' e' W W') : DSt w M F R K cs B a' e' W' := by
  have h1 := h.fr
  have h2 := h.rk
  have h3 := h.f.lt
  refine ⟨hs.is, hs.keep h.f (by omega), hs.keep h.s (by omega), hs.keep h.k (by omega), ?_, h.mf, h.fr, h.rk⟩
  obtain ⟨_, o, ho⟩ := hs
  exact h.below.trans (ho.below (by omega) (by omega))
theorem DSt.turn {w W W' : World} {M F R K a b : Nat} {cs : Array Value} {B : List Int} {e : Int} {o : Obj} (h : DSt w M F R K cs B a e W) (hT : Turn b o W W') (hb : K < b) : DSt w M F R K cs B a e W' := by
  have h1 := h.fr
  have h2 := h.rk
  have h3 := h.f.lt
  exact ⟨h.i.turn hT (by have := h.mf; omega) (by omega), hT.keep h.f (by omega), hT.keep h.s (by omega), hT.keep h.k (by omega), h.below.trans (hT.below (by omega) (by omega)), h.mf, h.fr, h.rk⟩
theorem DSt.more {w W W' : World} {M F R K a : Nat} {cs : Array Value} {B : List Int} {e : Int} (h : DSt w M F R K cs B a e W) (hb : Below W.heap.size W W') : DSt w M F R K cs B a e W' :=
  ⟨h.i.keep hb, h.f.keep hb, h.s.keep hb, h.k.keep hb, h.below.trans (hb.mono (by have := h.f.lt; omega)), h.mf, h.fr, h.rk⟩
theorem DSt.put {w W : World} {M F R K a : Nat} {cs : Array Value} {B : List Int} {e : Int} (h : DSt w M F R K cs B a e W) (i : Nat) (v : Value) : DSt w M F R K (cs.setIfInBounds i v) B a e (W.setCell ⟨K, i, none⟩ v) := by
  have h1 := h.fr
  have h2 := h.rk
  have h3 := h.f.lt
  have hT := (Turn.same h.k).set i v
  exact ⟨h.i.turn hT (by have := h.mf; omega) (by omega), hT.keep h.f (by omega), hT.keep h.s (by omega), hT.blk, h.below.trans (hT.below (by omega) (by omega)), h.mf, h.fr, h.rk⟩
theorem size40 {l : List Int} (h : l.length = 16) : (kv .u8 (fill 16 [])).toArray.size = (kv .u8 l).toArray.size := size83 h
theorem tE1_bad {B : List Int} (h : tE0 B ≠ 0) : tE1 B = tE0 B := by
  unfold tE1 failE
  by_cases hv : tV B = 1
  · rw [if_pos hv]
  · rw [if_neg hv, if_neg (fun e => h e.1)]
theorem tE1_one {B : List Int} (h : tV B = 1) : tE1 B = tE0 B := by unfold tE1; rw [if_pos h]
theorem tE1_two {B : List Int} (h : tE0 B = 0) (hv : tV B ≠ 1) : tE1 B = 10 := by unfold tE1 failE; rw [if_neg hv, if_pos ⟨h, by decide⟩]
def RPeekPost (B : List Int) (w : World) (r : Ending) (w' : World) : Prop :=
  ∃ a c, r = .returned (.tuple #[(xF B a c).v, dgV (tTag B), .int .i64 (tErr B)]) ∧ HoldsB w' w'.heap.size (.slice a (xT B).length c) (xT B) ∧ Below w.heap.size w w'
theorem rzero_post {B : List Int} {E : Int} {G : List Int} (h : tErr B = E) (hne : E ≠ 0) (hG : G = tTag B) : Ending.returned (.tuple #[.agg #[.int .i64 0, .int .i64 0, .int .u64 0, .int .u64 0, .int .i64 0, .slice none 0 0], .agg (kv .u8 G).toArray, .int .i64 E]) = .returned (.tuple #[(xF B none 0).v, dgV (tTag B), .int .i64 (tErr B)]) := by
  have hn : ¬ tErr B = 0 := by rw [h]; exact hne
  unfold xF xX xT
  rw [if_neg hn, if_neg hn, if_neg hn, if_neg hn, if_neg hn, if_neg hn, h, hG]
  rfl
theorem build26z (w : World) : (Instr.build 26 #[]).run Tryd.prog w = .ok (.agg #[.int .i64 0, .int .i64 0, .int .u64 0, .int .u64 0, .int .i64 0, .slice none 0 0]) w := run_build w 26 #[] _ (by kernel_rfl)
theorem exec_build26z {o : Oper} {a : Act} {w : World} (ho : o.op = .build 26 #[]) : (execOp a.eval o).run Tryd.prog w = .ok (.value (.agg #[.int .i64 0, .int .i64 0, .int .u64 0, .int .u64 0, .int .i64 0, .slice none 0 0])) w := by
  unfold execOp
  simp only [ho, List.map_toArray, List.map_nil, Sem.run_bind, build26z, Result.andThen_ok, Sem.run_pure]
end Go.Proofs.YtgabjmmmiogfjaaDoor
