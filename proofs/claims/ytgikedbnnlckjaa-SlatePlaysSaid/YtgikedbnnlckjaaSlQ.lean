/-
  SlateLasts: steps of the invariant.
-/
import Derived.Test.YtgikedbnnlckjaaSlP
namespace Go.Proofs.Ytgikedbnnlckjaa
open Go.RowKit

theorem ocells_set (o : OpV) (m : Int) : (ocells o).toArray.setIfInBounds 1 (.int .i64 m) = (ocells { o with at_ := m }).toArray := by simp [ocells]
theorem ocells_mid {w : World} {C : Nat} {o : OpV} (h : Blk w C (.cells (ocells o).toArray 32)) : w.rangeAt C 3 (kv .u8 o.to) := fun j v hv => by
  rw [h.cell (3 + j), List.getElem?_toArray, Nat.add_comm]
  exact hv
theorem writeE_zero {s : SlS} {a : Int} (h : writeE s a = 0) : hasE s a = 0 ∧ stepE s = 0 := by
  unfold writeE at h
  split at h
  · exact ⟨by assumption, h⟩
  · exact absurd h (by assumption)
theorem writeS_no {s : SlS} {a : Int} {z : List Int} (h : writeE s a ≠ 0) : (writeS s a z).ls = s.ls ∧ (writeS s a z).q = s.q ∧ (writeS s a z).n = s.n ∧ (writeS s a z).st ≤ s.st + 1 := by
  unfold writeE at h
  unfold writeS
  split
  · rename_i h1
    rw [if_pos h1] at h
    rw [if_neg h]
    exact ⟨(stepS_q s).2.1, (stepS_q s).1, (stepS_q s).2.2, stepS_more s⟩
  · exact ⟨rfl, rfl, rfl, by omega⟩
theorem writeS_yes {s : SlS} {m : Nat} {z : List Int} (h : writeE s m = 0) : (writeS s m z).ls = s.ls ∧ (writeS s m z).q = s.q ++ [(m, z)] ∧ (writeS s m z).n = s.n ∧ (writeS s m z).st ≤ s.st + 1 := by
  obtain ⟨h1, h2⟩ := writeE_zero h
  unfold writeS
  rw [if_pos h1, if_pos h2]
  exact ⟨(stepS_q s).2.1, by simp, (stepS_q s).2.2, stepS_more s⟩
theorem cells_ne {w : World} {a b : Nat} {c1 c2 : Array Value} {t1 t2 : TypeId} {f1 f2 : Nat × Nat} (h1 : w.heap[a]? = some (.cells c1 t1 f1)) (h2 : w.heap[b]? = some (.cells c2 t2 f2)) (h : t1 ≠ t2) : a ≠ b := by
  rintro rfl
  rw [h1] at h2
  injection h2 with e
  injection e with _ e
  exact h e
theorem own_ne {w : World} {a B e sz n : Nat} {c1 : Array Value} {t1 : TypeId} {f1 : Nat × Nat} {v : Value} {xs : List Value} (h1 : w.heap[a]? = some (.cells c1 t1 f1)) (h2 : w.ownsRow B e sz v n xs) (h : t1 ≠ e) : some a ≠ v.ownBlock := fun e2 => by
  obtain ⟨cur, hc⟩ := ownsRow_type h2 e2.symm
  exact cells_ne h1 hc h rfl
theorem SlIs.grownK {w w' : World} {g B n : Nat} {v v6 : Value} {s : SlS} {xs : List Value} (h : SlIs w g v s) (ho : w.ownsRow B 32 67 v6 n xs) (hg : w.grownBy w' v6.ownBlock) : SlIs w' g v s :=
  ⟨(hg.block _ h.b.lt (own_ne h.b ho (by decide))).trans h.b, (hg.block _ h.r.lt (own_ne h.r ho (by decide))).trans h.r, ownsRow_same h.o (fun k hk => by
    obtain ⟨cur, e⟩ := ownsRow_type h.o hk
    exact hg.block k (Array.getElem?_eq_some_iff.1 e).1 (own_ne e ho (by decide))), h.k⟩
/-- Behind a write, and its note. -/
theorem LInv.wrote {B NB g : Nat} {w0 w w1 w2 w3 : World} {v v' v6 v6' : Value} {s : SlS} {ll : List OpV} {k m : Nat} {z : List Int} {o : OpV} (h : LInv B NB g w0 w v v6 s ll k) (hs : SlStep g v v' (writeS s m z) w w1) (he : writeE s m = 0) (ho : o.at_ = m ∧ o.to = z) (hz : z.length = 64) (hzb : Bytes z) (hm : m < 5)
    (h1 : Below w1.heap.size w1 w2) (h2 : w3.ownsRow B 32 67 v6' (ll.length + 1) (lcells ll ++ ocells o)) (h3 : w2.grownBy w3 v6.ownBlock) : LInv B NB g w0 w3 v' v6' (writeS s m z) (ll ++ [o]) (k + 1) := by
  obtain ⟨e1, e2, e3, e4⟩ := writeS_yes (z := z) he
  have o2 := ownsRow_below (hs.ownK h.is h.own) h1
  have r2 := (hs.rowK h.is h.row).keep h1
  have b2 : Below B w0 w2 := (h.below.trans (hs.below h.gB (by have := h.row.lt; have := h.nB; omega) (fun j hj => by have := (h.is.o.lt j hj).1; have := h.gB; omega))).trans (h1.mono (by have := (hs.rowK h.is h.row).lt; have := h.nB; omega))
  refine ⟨(hs.is.keep h1).grownK o2 h3, by rw [e1]; exact (h3.block _ r2.lt (own_ne r2 o2 (by decide))).trans r2, by rw [List.length_append, List.length_singleton, lcells_add]; exact h2, e3.trans h.n5, ?_, ?_, ?_, ?_, h.gB, h.nB, b2.grown h3 (by have := r2.lt; have := h.nB; omega) (fun j hj => (o2.lt j hj).1)⟩
  · rw [e2, h.q, List.map_append, List.map_singleton, ho.1, ho.2]
    rfl
  · intro x hx
    rcases List.mem_append.1 hx with hx | hx
    · exact h.oo x hx
    · rw [List.mem_singleton.1 hx, ho.1, ho.2]
      exact ⟨hz, hzb, by omega, by omega⟩
  · have := h.st; omega
  · rw [List.length_append, List.length_singleton]; have := h.lk; omega
theorem flushE_zero {s : SlS} (h : flushE s = 0) : flushS s = { stepS s with ls := settleL s.ls s.q, q := [] } := by
  unfold flushE at h
  unfold flushS
  split
  · rename_i h1; rw [if_pos h1] at h; cases h
  · rename_i h1; rw [if_neg h1] at h; rw [if_pos h]
theorem flushS_no {s : SlS} (h : flushE s ≠ 0) : (flushS s).ls = s.ls ∧ (flushS s).q = s.q ∧ (flushS s).n = s.n ∧ (flushS s).st ≤ s.st + 1 := by
  unfold flushE at h
  unfold flushS
  split
  · exact ⟨rfl, rfl, rfl, by omega⟩
  · rename_i h1
    rw [if_neg h1] at h
    rw [if_neg h]
    exact ⟨(stepS_q s).2.1, (stepS_q s).1, (stepS_q s).2.2, stepS_more s⟩
/-- Behind a flush or a crash, while the law's own sectors are being laid: what stays. -/
structure LMid (B NB g : Nat) (w0 w : World) (v v6 : Value) (s : SlS) (ll : List OpV) (l : List Int) : Prop where
  is : SlIs w g v s
  row : Row w NB 41 .u8 l
  own : w.ownsRow B 32 67 v6 ll.length (lcells ll)
  oo : ∀ o ∈ ll, o.to.length = 64 ∧ Bytes o.to ∧ 0 ≤ o.at_ ∧ o.at_ < 5
  gB : B ≤ g
  nB : B ≤ NB
  l5 : l.length = 320
  below : Below B w0 w
theorem LMid.turn {B NB g : Nat} {w0 w w' : World} {v v6 : Value} {s : SlS} {ll : List OpV} {l l' : List Int} (h : LMid B NB g w0 w v v6 s ll l) (hT : Turn NB (.cells (kv .u8 l').toArray 41) w w') (hl : l'.length = 320) : LMid B NB g w0 w' v v6 s ll l' :=
  ⟨h.is.turnN h.row hT, hT.blk, own_turnN h.own h.row hT, h.oo, h.gB, h.nB, hl, h.below.trans (hT.below h.nB (by have := h.row.lt; have := h.nB; omega))⟩
theorem LMid.keep {B NB g : Nat} {w0 w w' : World} {v v6 : Value} {s : SlS} {ll : List OpV} {l : List Int} (h : LMid B NB g w0 w v v6 s ll l) (hb : Below w.heap.size w w') : LMid B NB g w0 w' v v6 s ll l :=
  ⟨h.is.keep hb, h.row.keep hb, ownsRow_below h.own hb, h.oo, h.gB, h.nB, h.l5, h.below.trans (hb.mono (by have := h.row.lt; have := h.nB; omega))⟩
/-- .. begun .. -/
theorem LInv.mid {B NB g : Nat} {w0 w w1 : World} {v v' v6 : Value} {s s' : SlS} {ll : List OpV} {k : Nat} (h : LInv B NB g w0 w v v6 s ll k) (hs : SlStep g v v' s' w w1) : LMid B NB g w0 w1 v' v6 s' ll s.ls :=
  ⟨hs.is, hs.rowK h.is h.row, hs.ownK h.is h.own, h.oo, h.gB, h.nB, by rw [h.is.k.ll, h.n5],
    h.below.trans (hs.below h.gB (by have := h.row.lt; have := h.nB; omega) (fun j hj => by have := (h.is.o.lt j hj).1; have := h.gB; omega))⟩
/-- .. and at its end. -/
theorem LMid.ends {B NB g : Nat} {w0 w : World} {v v6 : Value} {s : SlS} {ll : List OpV} {l : List Int} {k : Nat} (h : LMid B NB g w0 w v v6 s ll l) (hl : l = s.ls) (hn : s.n = 5) (hq : s.q = []) (hst : s.st ≤ k) : LInv B NB g w0 w v (.slice none 0 0) s [] k :=
  ⟨h.is, by rw [← hl]; exact h.row, World.ownsRow_nil _ _ _ _, hn, by rw [hq]; rfl, (fun o ho => by cases ho), hst, by simp, h.gB, h.nB, h.below⟩
theorem settleL_len {q : List (Nat × List Int)} : ∀ {ls : List Int}, ls.length = 320 → (∀ x ∈ q, x.1 < 5 ∧ x.2.length = 64) → (settleL ls q).length = 320 := by
  induction q with
  | nil => intro ls h _; exact h
  | cons x r ih =>
    intro ls h hq
    obtain ⟨a, b⟩ := hq x (by simp)
    have e : settleL ls (x :: r) = settleL (splice ls (x.1 * 64) x.2) r := rfl
    rw [e]
    exact ih (by rw [length_splice _ _ _ (by omega)]; exact h) (fun y hy => hq y (by simp [hy]))
end Go.Proofs.Ytgikedbnnlckjaa
