/-
  The document's pieces: From, Same, and a row of them.
-/
import Derived.Test.YtlgcpfeaecpocaaPcN
namespace Go.Proofs.Ytlgcpfeaecpocaa
open Go.RowKit

theorem ownsRow_same {w w' : World} {B e sz n : Nat} {v : Value} {xs : List Value} (h : w.ownsRow B e sz v n xs) (hs : ∀ k, v.ownBlock = some k → w'.heap[k]? = w.heap[k]?) : w'.ownsRow B e sz v n xs := by
  obtain ⟨h1, h2⟩ := h
  refine ⟨h1, ?_⟩
  rcases h2 with ⟨rfl, hn⟩ | ⟨g, cap, cur, rfl, a1, a2, a3, a4, a5, a6⟩
  · exact .inl ⟨rfl, hn⟩
  · exact .inr ⟨g, cap, cur, rfl, a1, (hs g rfl).trans a2, a3, a4, a5, a6⟩
theorem ownsRow_type {w : World} {B e sz n : Nat} {v : Value} {xs : List Value} (h : w.ownsRow B e sz v n xs) {k : Nat} (hk : v.ownBlock = some k) : ∃ cur, w.heap[k]? = some (.cells cur e (0, 0)) := by
  rcases h.2 with ⟨rfl, _⟩ | ⟨g, cap, cur, rfl, a1, a2, a3, a4, a5, a6⟩
  · cases hk
  · cases hk
    exact ⟨cur, a2⟩
/-- Two own rows of unlike types: what grows one leaves the other. -/
theorem own_grown {w w' : World} {B1 B2 e1 e2 s1 s2 n1 n2 : Nat} {v1 v2 : Value} {x1 x2 : List Value} (h1 : w.ownsRow B1 e1 s1 v1 n1 x1) (h2 : w.ownsRow B2 e2 s2 v2 n2 x2) (hne : e1 ≠ e2) (hg : w.grownBy w' v2.ownBlock) : w'.ownsRow B1 e1 s1 v1 n1 x1 := by
  refine ownsRow_same h1 fun k hk => ?_
  obtain ⟨cur, hc⟩ := ownsRow_type h1 hk
  refine hg.block k (Array.getElem?_eq_some_iff.1 hc).1 fun e => ?_
  obtain ⟨cur2, hc2⟩ := ownsRow_type h2 e.symm
  rw [hc] at hc2
  simp only [Option.some.injEq, Obj.cells.injEq] at hc2
  exact hne hc2.2.1
structure DRow (w : World) (B : Nat) (v : Value) (l : List PcV) : Prop where
  r : w.ownsRow B 25 4 v l.length (rcells l)
  t : ∀ x ∈ l, w.ownsRow B 5 1 x.v x.l.length (bv x.l) ∧ Bytes x.l
theorem DRow.keep {w w' : World} {B : Nat} {v : Value} {l : List PcV} (h : DRow w B v l) (hb : Below w.heap.size w w') : DRow w' B v l := ⟨ownsRow_below h.r hb, fun x hx => ⟨ownsRow_below (h.t x hx).1 hb, (h.t x hx).2⟩⟩
theorem DRow.nil (w : World) (B : Nat) : DRow w B (.slice none 0 0) [] := ⟨World.ownsRow_nil _ _ _ _, fun x hx => by cases hx⟩
theorem DRow.push {w w' : World} {B : Nat} {v v' : Value} {l : List PcV} {x : PcV} (h : DRow w B v l) (hr : w'.ownsRow B 25 4 v' (l.length + 1) (rcells l ++ pcc x)) (hg : w.grownBy w' v.ownBlock) (hx : w.ownsRow B 5 1 x.v x.l.length (bv x.l) ∧ Bytes x.l) : DRow w' B v' (l ++ [x]) := by
  refine ⟨?_, fun y hy => ?_⟩
  · rw [List.length_append]
    have e : rcells (l ++ [x]) = rcells l ++ pcc x := by simp [rcells]
    rw [e]
    exact hr
  · rcases List.mem_append.1 hy with hy | hy
    · exact ⟨own_grown (h.t y hy).1 h.r (by decide) hg, (h.t y hy).2⟩
    · rw [List.mem_singleton.1 hy]
      exact ⟨own_grown hx.1 h.r (by decide) hg, hx.2⟩
theorem DRow.at {w : World} {B : Nat} {v : Value} {l : List PcV} (h : DRow w B v l) {i : Nat} (hi : i < l.length) : ∃ lb cap, v = .slice (some ⟨lb, 0, none⟩) l.length cap ∧ B ≤ lb ∧ lb < w.heap.size ∧ w.rangeAt lb (i * 4) (pcc l[i]) := by
  rcases h.r.2 with ⟨_, hn⟩ | ⟨g, cap, cur, rfl, a1, a2, a3, a4, a5, a6⟩
  · omega
  · refine ⟨g, cap, rfl, a1, (Array.getElem?_eq_some_iff.1 a2).1, fun j u hu => ?_⟩
    have h7 := rcells_at hi hu
    rw [cell_of_row w g (i * 4 + j) _ 25 (0, 0) a2]
    rw [← a6, List.getElem?_take] at h7
    split at h7
    · simpa using h7
    · cases h7
theorem DRow.text {w : World} {B : Nat} {v : Value} {l : List PcV} (h : DRow w B v l) {x : PcV} (hx : x ∈ l) : HoldsB w w.heap.size x.v x.l := HoldsB.ofRow (h.t x hx).2 (h.t x hx).1
theorem info25s : (Try.prog.info? 25).map (·.size) = some 4 := by kernel_rfl
set_option maxRecDepth 100000 in
set_option maxHeartbeats 1000000 in
theorem from_any (id at_ many : Int) (a : Option Addr) (n c : Nat) (w : World) : Calls Try.prog 15 #[.agg #[.int .u32 id, .int .i64 at_, .int .i64 many, .slice a n c]] w fun r w' => r = .returned (.agg #[.int .u32 id, .int .i64 at_, .int .i64 many, .slice a n c]) ∧ Below w.heap.size w w' := by
  go_enter Try.func15, Try.ntmps15
  go_wp2_with fail
  exact bodyPost_ret (results_row rfl _ _ (w.heap.size + 1) 25 #[.int .u32 id, .int .i64 at_, .int .i64 many, .slice a n c] (0, 0) _ rfl (Blk.newAt _ (by simp)) Try.underlying25 rfl info25s) rfl ⟨rfl, more (more (Below.refl _ _) _) _⟩
def sameB (x y : PcV) : Bool := decide (x.id = y.id) && decide (x.at_ = y.at_) && decide (x.many = y.many) && decide (x.l = y.l)
set_option maxRecDepth 100000 in
set_option maxHeartbeats 1000000 in
theorem same_any (M N : Nat) (x y : PcV) (w : World) (hx : HoldsB w M x.v x.l) (hy : HoldsB w N y.v y.l) : Calls Try.prog 14 #[.agg (pcc x).toArray, .agg (pcc y).toArray] w fun r w' => r = .returned (.bool (sameB x y)) ∧ Below w.heap.size w w' := by
  obtain ⟨xi, xa, xm, xv, xl⟩ := x
  obtain ⟨yi, ya, ym, yv, yl⟩ := y
  simp only [] at hx hy
  have HX := Kp.mk hx
  have HY := Kp.mk hy
  obtain ⟨a, n, c, rfl, -⟩ := hx.slice
  obtain ⟨b, m, d, rfl, -⟩ := hy.slice
  have tx := ((HX.out.alloc (.cells #[.int .u32 xi, .int .i64 xa, .int .i64 xm, .slice a n c] 25)).alloc (.cells #[.int .u32 yi, .int .i64 ya, .int .i64 ym, .slice b m d] 25)).text
  have ty := ((HY.out.alloc (.cells #[.int .u32 xi, .int .i64 xa, .int .i64 xm, .slice a n c] 25)).alloc (.cells #[.int .u32 yi, .int .i64 ya, .int .i64 ym, .slice b m d] 25)).text
  have HE := Kp.mk (text_eq hx.bytes hy.bytes)
  clear hx hy
  unfold pcc sameB
  simp only []
  generalize strOfNums xl = sx at *
  generalize strOfNums yl = sy at *
  have HT : Kp (Below w.heap.size w ((w.alloc (.cells #[.int .u32 xi, .int .i64 xa, .int .i64 xm, .slice a n c] 25)).alloc (.cells #[.int .u32 yi, .int .i64 ya, .int .i64 ym, .slice b m d] 25))) := ⟨more (more (Below.refl _ _) _) _⟩
  by_cases h1 : xi = yi
  · have q1 : (xi == yi) = true := by simpa using h1
    by_cases h2 : xa = ya
    · have q2 : (xa == ya) = true := by simpa using h2
      by_cases h3 : xm = ym
      · have q3 : (xm == ym) = true := by simpa using h3
        have HR : Kp ((sx.toList == sy.toList) = (decide (xi = yi) && decide (xa = ya) && decide (xm = ym) && decide (xl = yl))) := ⟨by rw [HE.out, decide_eq_true h1, decide_eq_true h2, decide_eq_true h3]; rfl⟩
        clear h1 h2 h3
        go_enter Try.func14, Try.ntmps14
        go_wp2_with fail
        go_ret
        exact ⟨retb HR.out, HT.out⟩
      · have q3 : (xm == ym) = false := by simpa using h3
        have HR : Kp (false = (decide (xi = yi) && decide (xa = ya) && decide (xm = ym) && decide (xl = yl))) := ⟨by simp [h3]⟩
        clear h1 h2 h3
        go_enter Try.func14, Try.ntmps14
        go_wp2_with fail
        go_ret
        exact ⟨retb HR.out, HT.out⟩
    · have q2 : (xa == ya) = false := by simpa using h2
      have HR : Kp (false = (decide (xi = yi) && decide (xa = ya) && decide (xm = ym) && decide (xl = yl))) := ⟨by simp [h2]⟩
      clear h1 h2
      go_enter Try.func14, Try.ntmps14
      go_wp2_with fail
      go_ret
      exact ⟨retb HR.out, HT.out⟩
  · have q1 : (xi == yi) = false := by simpa using h1
    have HR : Kp (false = (decide (xi = yi) && decide (xa = ya) && decide (xm = ym) && decide (xl = yl))) := ⟨by simp [h1]⟩
    clear h1
    go_enter Try.func14, Try.ntmps14
    go_wp2_with fail
    go_ret
    exact ⟨retb HR.out, HT.out⟩
end Go.Proofs.Ytlgcpfeaecpocaa
