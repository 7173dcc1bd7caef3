/-
  What a turned row leaves of the two joiners.
-/
import Derived.Test.YtlgcpfeaecpocaaPlH
namespace Go.Proofs.Ytlgcpfeaecpocaa
open Go.RowKit

theorem JIs.any {w : World} {g q q' : Nat} {J : PjM} (h : JIs w g q J) (h0 : J.ps.length = 0) : JIs w g q' J := by
  refine ⟨?_, fun h1 => absurd h1 (by omega), h.t, h.n, h.i⟩
  have := h.b
  rw [h0] at this ⊢
  exact this
theorem takeR_ps {J : PjM} {p : PV} {tp : List Int} {v : Value} {x : PtV} (h : x ∈ (takeR J p tp v).2.2.2.ps) : x ∈ J.ps ∨ x = noPt ∨ x = ⟨true, v, tp⟩ := by
  have hn : ∀ x ∈ (nextJ J p).ps, x ∈ J.ps ∨ x = noPt := fun x hx => by
    unfold nextJ at hx
    split at hx
    · exact .inr (List.eq_of_mem_replicate hx)
    · exact .inl hx
  have hk : ∀ x ∈ (keepJ (nextJ J p) p.at_.toNat tp v).ps, x ∈ J.ps ∨ x = noPt ∨ x = ⟨true, v, tp⟩ := fun x hx => by
    unfold keepJ at hx
    split at hx
    · rcases hn x hx with h | h
      · exact .inl h
      · exact .inr (.inl h)
    · split at hx
      · cases hx
      · rcases List.mem_or_eq_of_mem_set hx with h | h
        · rcases hn x h with h | h
          · exact .inl h
          · exact .inr (.inl h)
        · exact .inr (.inr h)
  unfold takeR at h
  split at h
  · split at h
    · split at h
      · exact hk x h
      · cases h
    · exact hk x h
  · exact .inl h
def Away (b : Nat) (v : Value) (l : List Int) : Prop := ∀ a n c, v = .slice (some a) n c → 0 < l.length → a.block ≠ b
theorem HoldsB.away {w : World} {M b : Nat} {v : Value} {l : List Int} (h : HoldsB w M v l) (hM : M ≤ b) : Away b v l := by
  obtain ⟨a', cap, h1, h2, h3, h4, h5, h6, h7⟩ := h
  intro a n c e h0
  rw [e] at h1
  simp only [Value.slice.injEq] at h1
  have := (h5 a h1.1.symm h0).2.1
  omega
theorem NewV.away {X b : Nat} {v : Value} {l : List Int} (h : NewV X v) (hb : b < X) : Away b v l := by
  intro a n c e _ h2
  have := h a.block (by rw [e]; rfl)
  omega
theorem HoldsB.around {w w' : World} {M b : Nat} {v : Value} {l : List Int} (h : HoldsB w M v l) (ha : Away b v l) (hs : w.heap.size ≤ w'.heap.size) (ho : ∀ k, k < w.heap.size → k ≠ b → w'.heap[k]? = w.heap[k]?) : HoldsB w' M v l := by
  obtain ⟨a, cap, h1, h2, h3, h4, h5, h6, h7⟩ := h
  refine ⟨a, cap, h1, h2, h3, h4, fun x hx h0 => ⟨(h5 x hx h0).1, (h5 x hx h0).2.1, Nat.lt_of_lt_of_le (h5 x hx h0).2.2 hs⟩, fun x i hx hi => ?_, h7⟩
  have hne : x.block ≠ b := ha x _ _ (by rw [h1, hx]) (by omega)
  exact (World.cell?_of_block (w := w) (a := ⟨x.block, x.off + i, none⟩) (ho _ (h5 x hx (by omega)).2.2 hne)).trans (h6 x i hx hi)
/-- One block turns, whatever it holds. -/
structure XRel (b : Nat) (w w' : World) : Prop where
  os : w'.os = w.os
  tape : w'.tape = w.tape
  output : w'.output = w.output
  size : w.heap.size ≤ w'.heap.size
  other : ∀ k, k < w.heap.size → k ≠ b → w'.heap[k]? = w.heap[k]?
theorem XRel.refl (b : Nat) (w : World) : XRel b w w := ⟨rfl, rfl, rfl, Nat.le_refl _, fun _ _ _ => rfl⟩
theorem XRel.turn {b : Nat} {w w1 w2 : World} {o : Obj} (h : XRel b w w1) (ht : Turn b o w1 w2) : XRel b w w2 := ⟨ht.os.trans h.os, ht.tape.trans h.tape, ht.output.trans h.output, Nat.le_trans h.size ht.size, fun k hk hne => (ht.other k (Nat.lt_of_lt_of_le hk h.size) hne).trans (h.other k hk hne)⟩
theorem XRel.blk {b c : Nat} {w w' : World} {o : Obj} (h : XRel b w w') (hk : Blk w c o) (hne : c ≠ b) : Blk w' c o := (h.other c hk.lt hne).trans hk
theorem XRel.below {b B : Nat} {w w' : World} (h : XRel b w w') (hb : B ≤ b) (hs : B ≤ w.heap.size) : Below B w w' := ⟨h.os, h.tape, h.output, h.size, fun k hk => h.other k (by omega) (by omega)⟩
theorem JIs.around {w w' : World} {g q b : Nat} {J : PjM} (h : JIs w g q J) (hg : g ≠ b) (hq : 0 < J.ps.length → q ≠ b) (ha : ∀ x ∈ J.ps, Away b x.v x.l) (x : XRel b w w') : JIs w' g q J :=
  ⟨x.blk h.b hg, fun h0 => x.blk (h.r h0) (hq h0), fun y hy => ⟨((h.t y hy).1.around (ha y hy) x.size x.other).mono x.size, (h.t y hy).2⟩, h.n, h.i⟩
theorem QRow.around {w w' : World} {B b : Nat} {v : Value} {l : List PcV} (h : QRow w B v l) (hb : B ≤ b) (hne : ∀ k cur, w.heap[k]? = some (.cells cur 25 (0, 0)) → k ≠ b) (x : XRel b w w') : QRow w' B v l := by
  refine ⟨ownsRow_same h.r fun k hk => ?_, fun y hy => (h.t y hy).around ((h.t y hy).away hb) x.size x.other⟩
  obtain ⟨cur, hc⟩ := ownsRow_type h.r hk
  exact x.other k (Array.getElem?_eq_some_iff.1 hc).1 (hne k cur hc)
theorem QRow.jstep {w w' : World} {B g q q' : Nat} {J J' : PjM} {v : Value} {l : List PcV} (h : QRow w B v l) (hj : JIs w g q J) (hq : q = g ∨ 0 < J.ps.length) (hs : JStep g q q' J' w w') (hg : B ≤ g) (hqb : B ≤ q) : QRow w' B v l := by
  refine ⟨ownsRow_same h.r fun k hk => ?_, fun y hy => (h.t y hy).frame hs.size fun k hk hks => hs.other k hks (by omega) (by omega)⟩
  obtain ⟨cur, hc⟩ := ownsRow_type h.r hk
  have h1 : k ≠ g := cells_ne hc hj.b (by decide)
  refine hs.other k (Array.getElem?_eq_some_iff.1 hc).1 h1 ?_
  rcases hq with rfl | hq
  · exact h1
  · exact cells_ne hc (hj.r hq) (by decide)
theorem JStep.blk {w w' : World} {g q q' b : Nat} {J J' : PjM} {cs : Array Value} {t : TypeId} {fr : Nat × Nat} (hs : JStep g q q' J' w w') (hj : JIs w g q J) (hq : q = g ∨ 0 < J.ps.length) (hb : Blk w b (.cells cs t fr)) (h1 : t ≠ 87) (h2 : t ≠ 94) : Blk w' b (.cells cs t fr) := by
  have hg : b ≠ g := cells_ne hb hj.b h1
  refine (hs.other b hb.lt hg ?_).trans hb
  rcases hq with rfl | hq
  · exact hg
  · exact cells_ne hb (hj.r hq) h2
theorem JR.waits {J : PjM} {R : RJ} (h : JR J R) : (((haves J.ps : Nat) : Int) = if R.any = false ∨ R.over = true then (0 : Int) else ((R.ps.length : Nat) : Int)) ∧ (((J.ps.length : Nat) : Int) = if R.any = false ∨ R.over = true then 0 else R.many) := by
  by_cases h1 : R.any = false
  · rw [if_pos (.inl h1), if_pos (.inl h1), (h.new h1).1]
    exact ⟨rfl, rfl⟩
  · have ha : R.any = true := by simpa using h1
    by_cases h2 : R.over = true
    · rw [if_pos (.inr h2), if_pos (.inr h2), (h.over ha h2).1]
      exact ⟨rfl, rfl⟩
    · obtain ⟨o1, o2, -⟩ := h.on ha (by simpa using h2)
      rw [if_neg (by rintro (a | a); exact h1 a; exact h2 a), if_neg (by rintro (a | a); exact h1 a; exact h2 a), o2, o1]
      exact ⟨rfl, rfl⟩
theorem JR.bounds {J : PjM} {R : RJ} (h : JR J R) (hn : J.ps.length ≤ 32) : ((R.over = false → R.ps.length ≤ 31) ∧ ∀ x ∈ R.ps, x.l.length ≤ 4096) ∧ (R.over = false → R.any = true → (R.ps.length : Int) < R.many) ∧ R.many ≤ 32 := by
  refine ⟨⟨fun ho => ?_, h.small.2.1⟩, fun ho ha => ?_, h.small.2.2⟩
  · cases ha : R.any with
    | false => rw [(h.new ha).2.1]; simp
    | true => obtain ⟨o1, o2, o3, -⟩ := h.on ha ho; omega
  · obtain ⟨o1, o2, o3, -⟩ := h.on ha ho
    omega
theorem bytes_turn {w : World} {base g n cap : Nat} {ys : List Int} (h : w.ownsRow base 5 1 (.slice (some ⟨g, 0, none⟩) n cap) n (bv ys)) (j : Nat) (z : Int) : (w.setCell ⟨g, j, none⟩ (.int .u8 z)).ownsRow base 5 1 (.slice (some ⟨g, 0, none⟩) n cap) n (bv (ys.set j z)) := by
  have := (h.stored j (.int .u8 z)).1
  unfold bv
  rw [List.map_set]
  exact this
end Go.Proofs.Ytlgcpfeaecpocaa
