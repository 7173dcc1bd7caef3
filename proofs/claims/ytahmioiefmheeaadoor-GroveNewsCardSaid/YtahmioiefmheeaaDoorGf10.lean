/-
  The document's Node.
  The document's Node, at whatever level.
  Levels, UpCost, RiseCost: the program's and the document's.
  isRung, isNode, the document's Right.
  The law's To.
  A row of short sums, made.
  ladder.tree at width one (its first loop stands for every width: cut there for the others).
-/
import Derived.Test.YtahmioiefmheeaaDoorGf09
import Derived.Deep.MidRow
import Derived.Laws.CopyOwn
namespace Go.Proofs.YtahmioiefmheeaaDoor
open Go.RowKit

/-- What stands in a rung's tree at a level and a place; the texts that are summed for it. -/
def nodeS (d e s r : Int) (el : List Int) : Nat → Int → List Int
  | 0, p => shortL (leafT d e s r el p)
  | k + 1, p => shortL (joinT d e s r (nodeS d e s r el k (2 * p)) (nodeS d e s r el k (2 * p + 1)))
def nodeT (d e s r : Int) (el : List Int) : Nat → Int → List (List Int)
  | 0, p => [leafT d e s r el p]
  | k + 1, p => (nodeT d e s r el k (2 * p) ++ nodeT d e s r el k (2 * p + 1)) ++ [joinT d e s r (nodeS d e s r el k (2 * p)) (nodeS d e s r el k (2 * p + 1))]
theorem nodeS_len (d e s r : Int) (el : List Int) (k : Nat) (p : Int) : (nodeS d e s r el k p).length = 16 := by
  cases k <;> exact shortL_len _
theorem nodeS_bytes (d e s r : Int) (el : List Int) (k : Nat) (p : Int) : Bytes (nodeS d e s r el k p) := by
  cases k <;> exact shortL_bytes _
theorem nodeT_len (d e s r : Int) (el : List Int) (k : Nat) : ∀ p, (nodeT d e s r el k p).length = 2 ^ (k + 1) - 1 := by
  induction k with
  | zero => intro p; rfl
  | succ k ih =>
    intro p
    simp only [nodeT, List.length_append, ih, List.length_cons, List.length_nil]
    have : 2 ^ (k + 1 + 1) = 2 * 2 ^ (k + 1) := by rw [Nat.pow_succ, Nat.mul_comm]
    have h1 : 0 < 2 ^ (k + 1) := Nat.pow_pos (by decide)
    omega
/-- Two results: an array in a cell, and a slot. -/
theorem results_row_tmp {P : Program} {fn : Func} {p q : Tmp} {ty : TypeId} (h : fn.results = #[.cell p ty, .tmp q]) (tmps : Array Value) (w : World) (g : Nat) (t : TypeId) (cs : Array Value) (fr : Nat × Nat) (d : TypeDesc) (u : Value)
    (hp : tmps.getD p undef = .pointer (some ⟨g, 0, none⟩)) (hq : tmps.getD q undef = u) (hg : w.heap[g]? = some (.cells cs t fr))
    (hu : P.underlying ty = some d) (hd : (match d with | .struct _ | .array _ _ => true | _ => false) = true) (hi : (P.info? ty).map (·.size) = some cs.size) :
    (results fn tmps).run P w = .ok (.tuple #[.agg cs, u]) w := by
  have hp' : tmps[p]?.getD undef = .pointer (some ⟨g, 0, none⟩) := by simpa using hp
  have hq' : tmps[q]?.getD undef = u := by simpa using hq
  simp [results, h, hp', hq', asAddr, run_loadVar_row w g t ty cs fr d hg hu hd hi]
theorem setRow_ne {w : World} {g k : Nat} (cs : Array Value) (h : k ≠ g) : (w.setRow g cs).heap[k]? = w.heap[k]? := by
  unfold World.setRow
  rw [Array.getElem?_modify]
  rw [if_neg (by omega)]
/-- A store into a row of zeros leaves texts that begin with other bytes as they are. -/
theorem HoldsB.other {w : World} {M g : Nat} {v : Value} {l : List Int} (h : HoldsB w M v l) (cs : Array Value) (hz : Row w g 32 .u8 (fill 16 [])) (h0 : 0 < l.length) (h1 : l.getD 0 0 ≠ 0) : HoldsB (w.setRow g cs) M v l := by
  obtain ⟨a, cap, e1, e2, e3, e4, e5, e6, e7⟩ := h
  have hs : (w.setRow g cs).heap.size = w.heap.size := by simp [World.setRow]
  have hne : ∀ x, a = some x → x.block ≠ g := by
    intro x hx e
    have hc := e6 x 0 hx h0
    by_cases hlt : x.off + 0 < 16
    · have hr := Row.cell hz (i := x.off + 0) (by rw [fill_len (by simp)]; exact hlt)
      rw [e, hr] at hc
      have : (fill 16 []).getD (x.off + 0) 0 = 0 := by
        unfold fill
        rw [List.getD_eq_getElem?_getD, List.nil_append, List.getElem?_replicate]
        split <;> rfl
      rw [this] at hc
      simp only [Option.some.injEq, Value.int.injEq, true_and] at hc
      exact h1 hc.symm
    · have hr := Blk.cell hz (x.off + 0)
      rw [e, hr, List.getElem?_toArray, List.getElem?_eq_none (by rw [List.length_map, fill_len (by simp)]; omega)] at hc
      cases hc
  refine ⟨a, cap, e1, e2, e3, e4, fun x hx h => by rw [hs]; exact e5 x hx h, fun x i hx hi => ?_, e7⟩
  exact (World.cell?_of_block (w := w) (a := ⟨x.block, x.off + i, none⟩) (setRow_ne cs (hne x hx))).trans (e6 x i hx hi)
theorem HoldsP.other {w : World} {g : Nat} {v : Value} {ts : List (List Int)} (h : HoldsP w v ts) (cs : Array Value) (hz : Row w g 32 .u8 (fill 16 [])) (h1 : ∀ t ∈ ts, 0 < t.length ∧ t.getD 0 0 ≠ 0) : HoldsP (w.setRow g cs) v ts := by
  have hs : (w.setRow g cs).heap.size = w.heap.size := by simp [World.setRow]
  obtain ⟨a, cap, e1, e2, e3⟩ := h
  refine ⟨a, cap, e1, e2, fun i hi => ?_⟩
  obtain ⟨b, off, a1, n1, c1, f1, f2, f3, f4⟩ := e3 i hi
  have hm : ts.getD i [] ∈ ts := by rw [List.getD_eq_getElem?_getD, List.getElem?_eq_getElem hi]; exact List.getElem_mem hi
  have hne : b ≠ g := by
    intro e
    subst e
    have hr := Blk.cell hz (off + i)
    rw [f3, List.getElem?_toArray, List.getElem?_map] at hr
    cases hq : (fill 16 [])[off + i]? with
    | none => rw [hq] at hr; cases hr
    | some q => rw [hq] at hr; simp at hr
  exact ⟨b, off, a1, n1, c1, f1, by rw [hs]; exact f2, (World.cell?_of_block (w := w) (a := ⟨b, off + i, none⟩) (setRow_ne cs hne)).trans f3, by rw [hs]; exact f4.other cs hz (h1 _ hm).1 (h1 _ hm).2⟩
theorem nodeT_first (d e s r : Int) (el : List Int) (k : Nat) : ∀ p, ∀ t ∈ nodeT d e s r el k p, 0 < t.length ∧ t.getD 0 0 ≠ 0 := by
  induction k with
  | zero => intro p t ht; simp [nodeT] at ht; subst ht; exact ⟨by simp [leafT], by simp [leafT]⟩
  | succ k ih =>
    intro p t ht
    simp only [nodeT, List.mem_append, List.mem_singleton] at ht
    rcases ht with (h | h) | h
    · exact ih _ t h
    · exact ih _ t h
    · subst h; exact ⟨by simp [joinT], by simp [joinT]⟩
set_option maxRecDepth 100000 in
set_option maxHeartbeats 2000000 in
theorem node_zero (d e s r : Int) (el : List Int) (p : Int) (w : World) (he : 0 ≤ e ∧ e < 4294967296) (hs : 0 ≤ s ∧ s < 4294967296) (hel : el.length = 16) (hb : Bytes el) :
    Calls Tryd.prog 52 #[plV d e s, .int .i64 r, dgV el, .int .i64 0, .int .i64 p] w fun q w' => ∃ v', q = .returned (.tuple #[dgV (nodeS d e s r el 0 p), v']) ∧ HoldsP w' v' (nodeT d e s r el 0 p) ∧ Below w.heap.size w w' := by
  have HE := Kp.mk he
  have HS := Kp.mk hs
  have HEL := Kp.mk hel
  have HEB := Kp.mk hb
  have HCL := Kp.mk (cells49 hel)
  clear he hs hel hb
  go_enter Tryd.func52, Tryd.ntmps52
  go_wp2_with (first
    | (refine wpList_load_row rfl 48 (.tmp 5) rfl w.heap.size rfl 48 _ (0, 0) _ (Blk.old (Blk.old (Blk.newAt (w := w) _ rfl) _) _) Tryd.underlying48 rfl (cells48 d e s) ?_)
    | (refine wpList_load_row rfl 32 (.tmp 7) rfl (w.heap.size + 1) rfl 32 (kv .u8 el).toArray (0, 0) _ (Blk.old (Blk.newAt _ (by simp)) _) Tryd.underlying32 rfl HCL.out ?_))
  refine calls_world (fun W => Row W (w.heap.size + 1 + 1) 32 .u8 (fill 16 []) ∧ Below w.heap.size w W) ⟨Blk.newAt _ (by simp), more (more (more (Below.refl _ _) _) _) _⟩ ?_
  rintro w1 ⟨h1, h2⟩
  have R1 := Kp.mk h1
  have B1 := Kp.mk h2
  clear h1 h2
  refine (rleafT_any d e s r el p w1 HE.out HS.out HEL.out HEB.out).mono ?_
  rintro q w2 ⟨vt, rfl, h3, h4⟩
  have HT := Kp.mk h3
  have R2 := Kp.mk (R1.out.keep h4)
  have B2 : Kp (Below w.heap.size w w2) := ⟨B1.out.trans (h4.mono B1.out.size)⟩
  obtain ⟨a, n, c, rfl, -⟩ := h3.slice
  clear h3 h4
  go_wp2_with fail
  refine (of_any _ _ 76 _ w2 HT.out (by simp [placeL_len, HEL.out])).mono ?_
  rintro q w3 ⟨rfl, h5⟩
  have HT3 := Kp.mk (HT.out.keep h5)
  have R3 := Kp.mk (R2.out.keep h5)
  have B3 : Kp (Below w.heap.size w w3) := ⟨B2.out.trans (h5.mono B2.out.size)⟩
  have HSz : Kp (w2.heap.size ≤ w3.heap.size) := ⟨h5.size⟩
  clear h5
  obtain ⟨z, hz⟩ : ∃ z, z = nodeS d e s r el 0 p := ⟨_, rfl⟩
  have HZl := Kp.mk (nodeS_len d e s r el 0 p)
  rw [show dgV (shortL (76 :: (placeL d e s r ++ el ++ [p % 256]))) = dgV (nodeS d e s r el 0 p) from rfl, ← hz]
  rw [← hz] at HZl
  have HZ := Kp.mk hz
  clear hz
  have HO : Kp (HoldsP (w3.alloc (.cells #[.slice a n c] 22)) (.slice (some ⟨w3.heap.size, 0, none⟩) 1 1) (nodeT d e s r el 0 p)) := ⟨holds_one HT3.out HSz.out⟩
  have R4 := Kp.mk (R3.out.alloc (.cells #[.slice a n c] 22))
  have B4 : Kp (Below w.heap.size w (w3.alloc (.cells #[.slice a n c] 22))) := ⟨more B3.out _⟩
  have HC := Kp.mk (cells49 HZl.out)
  have HZZ := Kp.mk (size50 HZl.out)
  have HF := Kp.mk (R4.out.setRow z)
  have HBf := Kp.mk (Below.row B4.out (g := w.heap.size + 1 + 1) (by omega) (kv .u8 z).toArray)
  go_wp2_with (refine wpList_store_row rfl 32 (.tmp 10) (.tmp 27) rfl (w.heap.size + 1 + 1) (kv .u8 z).toArray rfl rfl 32 _ R4.out HC.out HZZ.out (kv_all _ _) ?_)
  refine bodyPost_ret (v := .tuple #[dgV z, .slice (some ⟨w3.heap.size, 0, none⟩) 1 1]) ?_ rfl ⟨_, by rw [HZ.out], HO.out.other _ R4.out (nodeT_first d e s r el 0 p), HBf.out⟩
  exact results_row_tmp rfl _ _ (w.heap.size + 1 + 1) 32 _ (0, 0) _ _ rfl rfl HF.out Tryd.underlying32 rfl HC.out
end Go.Proofs.YtahmioiefmheeaaDoor

namespace Go.Proofs.YtahmioiefmheeaaDoor
open Go.RowKit

theorem texts_one {w : World} {M : Nat} {a : Option Addr} {n c : Nat} {l : List Int} (h : HoldsB w M (.slice a n c) l) :
    TextsAt (w.alloc (.cells #[.slice a n c] 22)) (w.heap.size + 1) M (.slice (some ⟨w.heap.size, 0, none⟩) 1 1) [l] := by
  refine ⟨_, 1, rfl, fun i hi => ?_⟩
  have h0 : i = 0 := by simpa using hi
  subst h0
  exact ⟨w.heap.size, 0, a, n, c, rfl, by omega, by simp, (Blk.new w (.cells #[.slice a n c] 22)).cell 0, h.alloc _⟩
set_option maxRecDepth 100000 in
set_option maxHeartbeats 4000000 in
theorem node_any (d e s r : Int) (el : List Int) (he : 0 ≤ e ∧ e < 4294967296) (hs : 0 ≤ s ∧ s < 4294967296) (hel : el.length = 16) (hb : Bytes el) (k : Nat) : ∀ (p : Int) (w : World), k ≤ 3 → 0 ≤ p → (p + 1) * 2 ^ k ≤ 8 →
    Calls Tryd.prog 52 #[plV d e s, .int .i64 r, dgV el, .int .i64 k, .int .i64 p] w fun q w' => ∃ v', q = .returned (.tuple #[dgV (nodeS d e s r el k p), v']) ∧ HoldsP w' v' (nodeT d e s r el k p) ∧ Below w.heap.size w w' := by
  induction k with
  | zero =>
    intro p w _ _ _
    exact node_zero d e s r el p w he hs hel hb
  | succ k ih =>
    intro p w hk hp0 hp
    have hk2 : k ≤ 2 := by omega
    have hp2 : (p + 1) * 2 ^ (k + 1) = 2 * ((p + 1) * 2 ^ k) := by rw [Int.pow_succ]; rw [← Int.mul_assoc, Int.mul_comm]
    have hpos : (1 : Int) ≤ 2 ^ k := by
      rcases (show k = 0 ∨ k = 1 ∨ k = 2 by omega) with rfl | rfl | rfl <;> decide
    have hp7 : p ≤ 3 := by
      rcases (show k = 0 ∨ k = 1 ∨ k = 2 by omega) with rfl | rfl | rfl <;> (simp at hp2; omega)
    have IH1 := Kp.mk (fun wx => ih (2 * p) wx (by omega) (by omega) (by
      rcases (show k = 0 ∨ k = 1 ∨ k = 2 by omega) with rfl | rfl | rfl <;> (simp at hp ⊢; omega)))
    have IH2 := Kp.mk (fun wx => ih (2 * p + 1) wx (by omega) (by omega) (by
      rcases (show k = 0 ∨ k = 1 ∨ k = 2 by omega) with rfl | rfl | rfl <;> (simp at hp ⊢; omega)))
    have HE := Kp.mk he
    have HS := Kp.mk hs
    have HEL := Kp.mk hel
    have HCL := Kp.mk (cells49 hel)
    have t0 : ((k : Int) + 1 == 0) = false := by rw [beq_eq_false_iff_ne]; omega
    clear ih hp hp2 hpos hk
    go_enter Tryd.func52, Tryd.ntmps52
    go_wp2_with (first
      | (refine wpList_load_row rfl 48 (.tmp 5) rfl w.heap.size rfl 48 _ (0, 0) _ (Blk.old (Blk.old (Blk.newAt (w := w) _ rfl) _) _) Tryd.underlying48 rfl (cells48 d e s) ?_)
      | (refine wpList_load_row rfl 32 (.tmp 7) rfl (w.heap.size + 1) rfl 32 (kv .u8 el).toArray (0, 0) _ (Blk.old (Blk.newAt _ (by simp)) _) Tryd.underlying32 rfl HCL.out ?_))
    obtain ⟨A, hA⟩ : ∃ A, A = w.heap.size := ⟨_, rfl⟩
    have HA := Kp.mk hA
    rw [← hA]
    refine calls_world (fun W => Blk W A (.cells #[.int .i64 d, .int .u32 e, .int .u32 s] 48) ∧ Row W (A + 1) 32 .u8 el ∧ Row W (A + 1 + 1) 32 .u8 (fill 16 []) ∧ Below A w W) ⟨Blk.old (Blk.old (Blk.newAt _ hA) _) _, Blk.old (Blk.newAt _ (by simp [hA])) _, Blk.newAt _ (by simp [hA]), by rw [hA]; exact more (more (more (Below.refl _ _) _) _) _⟩ ?_
    clear hA
    rintro w0 ⟨q1, q2, q3, q4⟩
    have P0 := Kp.mk q1
    have E0 := Kp.mk q2
    have R0 := Kp.mk q3
    have B0 := Kp.mk q4
    clear q1 q2 q3 q4
    refine (IH1.out w0).mono ?_
    rintro q w1 ⟨v1, rfl, h1, h2⟩
    have S1 := Kp.mk (nodeS_len d e s r el k (2 * p))
    have SB1 := Kp.mk (nodeS_bytes d e s r el k (2 * p))
    have T1 := Kp.mk h1
    have P1 := Kp.mk (P0.out.keep h2)
    have E1 := Kp.mk (E0.out.keep h2)
    have R1 := Kp.mk (R0.out.keep h2)
    have B1 : Kp (Below A w w1) := ⟨B0.out.trans (h2.mono (by have := P0.out.lt; omega))⟩
    have N1 := Kp.mk (nodeT_len d e s r el k (2 * p))
    have F1 := Kp.mk (nodeT_first d e s r el (k + 1) p)
    have HNS : Kp (nodeS d e s r el (k + 1) p = shortL (joinT d e s r (nodeS d e s r el k (2 * p)) (nodeS d e s r el k (2 * p + 1)))) := ⟨rfl⟩
    have HNT : Kp (nodeT d e s r el (k + 1) p = (nodeT d e s r el k (2 * p) ++ nodeT d e s r el k (2 * p + 1)) ++ [joinT d e s r (nodeS d e s r el k (2 * p)) (nodeS d e s r el k (2 * p + 1))]) := ⟨rfl⟩
    have S2 := Kp.mk (nodeS_len d e s r el k (2 * p + 1))
    have SB2 := Kp.mk (nodeS_bytes d e s r el k (2 * p + 1))
    have N2 := Kp.mk (nodeT_len d e s r el k (2 * p + 1))
    clear h1 h2 P0 E0 R0 B0 IH1
    obtain ⟨NS, hNS⟩ : ∃ NS, NS = nodeS d e s r el (k + 1) p := ⟨_, rfl⟩
    obtain ⟨NT, hNT⟩ : ∃ NT, NT = nodeT d e s r el (k + 1) p := ⟨_, rfl⟩
    have HNSe := Kp.mk hNS
    have HNTe := Kp.mk hNT
    rw [← hNS] at HNS
    rw [← hNT] at HNT F1
    clear hNS hNT
    have IH2' : Kp (∀ wx, Calls Tryd.prog 52 #[plV d e s, .int .i64 r, dgV el, .int .i64 k, .int .i64 (2 * p + 1)] wx fun q w' => ∃ v', q = .returned (.tuple #[dgV (nodeS d e s r el k (2 * p + 1)), v']) ∧ HoldsP w' v' (nodeT d e s r el k (2 * p + 1)) ∧ Below wx.heap.size wx w') := ⟨IH2.out⟩
    clear IH2
    generalize nodeS d e s r el k (2 * p) = s1 at *
    generalize nodeS d e s r el k (2 * p + 1) = s2 at *
    generalize nodeT d e s r el k (2 * p) = t1 at *
    generalize nodeT d e s r el k (2 * p + 1) = t2 at *
    have HC1 := Kp.mk (cells49 S1.out)
    have HZ1 := Kp.mk (size50 S1.out)
    have HC2 := Kp.mk (cells49 S2.out)
    have HZ2 := Kp.mk (size50 S2.out)
    obtain ⟨W1, hW1⟩ : ∃ W1, W1 = (w1.alloc z49).setRow w1.heap.size (kv .u8 s1).toArray := ⟨_, rfl⟩
    have X1 : Kp (Below w1.heap.size w1 W1 ∧ Row W1 w1.heap.size 32 .u8 s1) := ⟨by rw [hW1]; exact ⟨Below.row (more (Below.refl _ _) z49) (Nat.le_refl _) _, Row.setRow (k := .u8) (l := fill 16 []) (Blk.new w1 z49) _⟩⟩
    have P2 := Kp.mk (P1.out.keep X1.out.1)
    have E2 := Kp.mk (E1.out.keep X1.out.1)
    have R2 := Kp.mk (R1.out.keep X1.out.1)
    have T2 := Kp.mk (T1.out.keep X1.out.1)
    have B2 : Kp (Below A w W1) := ⟨B1.out.trans (X1.out.1.mono (by have := P1.out.lt; omega))⟩
    go_wp2_with (first
      | (refine wpList_store_row rfl 32 (.tmp 13) (.tmp 39) rfl w1.heap.size (kv .u8 s1).toArray rfl rfl 32 _ (Blk.new w1 z49) HC1.out HZ1.out (kv_all _ _) ?_; refine wpl_world (· = W1) hW1.symm ?_; clear hW1; intro W0 e0; rw [e0]; clear e0)
      | (refine wpList_load_row rfl 48 (.tmp 5) rfl A rfl 48 _ (0, 0) _ P2.out Tryd.underlying48 rfl (cells48 d e s) ?_)
      | (refine wpList_load_row rfl 32 (.tmp 7) rfl (A + 1) rfl 32 (kv .u8 el).toArray (0, 0) _ E2.out Tryd.underlying32 rfl HCL.out ?_))
    refine (IH2'.out W1).mono ?_
    rintro q w2 ⟨v2, rfl, h1, h2⟩
    have U2 := Kp.mk h1
    have P3 := Kp.mk (P2.out.keep h2)
    have R3 := Kp.mk (R2.out.keep h2)
    have T3 := Kp.mk (T2.out.keep h2)
    have Y3 := Kp.mk (X1.out.2.keep h2)
    have B3 : Kp (Below A w w2) := ⟨B2.out.trans (h2.mono (by have := P2.out.lt; omega))⟩
    clear h1 h2 P1 E1 R1 B1 T1 P2 E2 R2 T2 B2 X1 IH2'
    obtain ⟨W2, hW2⟩ : ∃ W2, W2 = (w2.alloc z49).setRow w2.heap.size (kv .u8 s2).toArray := ⟨_, rfl⟩
    have X2 : Kp (Below w2.heap.size w2 W2 ∧ Row W2 w2.heap.size 32 .u8 s2) := ⟨by rw [hW2]; exact ⟨Below.row (more (Below.refl _ _) z49) (Nat.le_refl _) _, Row.setRow (k := .u8) (l := fill 16 []) (Blk.new w2 z49) _⟩⟩
    have P4 := Kp.mk (P3.out.keep X2.out.1)
    have R4 := Kp.mk (R3.out.keep X2.out.1)
    have T4 := Kp.mk (T3.out.keep X2.out.1)
    have U4 := Kp.mk (U2.out.keep X2.out.1)
    have Y4 := Kp.mk (Y3.out.keep X2.out.1)
    have B4 : Kp (Below A w W2) := ⟨B3.out.trans (X2.out.1.mono (by have := P3.out.lt; omega))⟩
    go_wp2_with (first
      | (refine wpList_store_row rfl 32 (.tmp 15) (.tmp 51) rfl w2.heap.size (kv .u8 s2).toArray rfl rfl 32 _ (Blk.new w2 z49) HC2.out HZ2.out (kv_all _ _) ?_; refine wpl_world (· = W2) hW2.symm ?_; clear hW2; intro W0 e0; rw [e0]; clear e0)
      | (refine wpList_load_row rfl 48 (.tmp 5) rfl A rfl 48 _ (0, 0) _ P4.out Tryd.underlying48 rfl (cells48 d e s) ?_)
      | (refine wpList_load_row rfl 32 (.tmp 13) rfl w1.heap.size rfl 32 (kv .u8 s1).toArray (0, 0) _ Y4.out Tryd.underlying32 rfl HC1.out ?_)
      | (refine wpList_load_row rfl 32 (.tmp 15) rfl w2.heap.size rfl 32 (kv .u8 s2).toArray (0, 0) _ X2.out.2 Tryd.underlying32 rfl HC2.out ?_))
    refine (rjoinT_any d e s r s1 s2 W2 HE.out HS.out S1.out SB1.out S2.out SB2.out).mono ?_
    rintro q w3 ⟨vt, rfl, h1, h2⟩
    obtain ⟨ta, tn, tc, rfl, -⟩ := h1.slice
    have V5 := Kp.mk h1
    have R5 := Kp.mk (R4.out.keep h2)
    have T5 := Kp.mk (T4.out.keep h2).texts
    have U5 := Kp.mk (U4.out.keep h2).texts
    have B5 : Kp (Below A w w3) := ⟨B4.out.trans (h2.mono (by have := P4.out.lt; omega))⟩
    clear h1 h2 P3 R3 T3 Y3 B3 P4 R4 T4 U2 U4 Y4 B4 X2
    obtain ⟨E, hE⟩ : ∃ E, E = w3.heap.size := ⟨_, rfl⟩
    rw [← hE] at V5 T5 U5
    have HEe := Kp.mk hE
    have HAE : Kp (A + 1 + 1 < E) := ⟨by have := R5.out.lt; omega⟩
    clear hE
    have L1 : Kp (0 < t1.length ∧ t1.length ≤ 15) := ⟨by
      rw [N1.out]
      rcases (show k = 0 ∨ k = 1 ∨ k = 2 by omega) with rfl | rfl | rfl <;> decide⟩
    have L2 : Kp (0 < t2.length ∧ t2.length ≤ 15) := ⟨by
      rw [N2.out]
      rcases (show k = 0 ∨ k = 1 ∨ k = 2 by omega) with rfl | rfl | rfl <;> decide⟩
    go_wp2_with (at_builtin; refine wpList_append_texts rfl _ _ rfl E E E _ [] t1 rfl (RowT.nil _ _ _) (Nat.le_refl _) _ rfl T5.out L1.out.1 ?c0 ?c1 ?_)
    case c0 => have := L1.out.2; simp; omega
    case c1 => rw [HEe.out]; exact Nat.le_refl _
    intro va w4 h1 h2
    obtain ⟨aa, ca, rfl⟩ := h1.slice
    have V6 := Kp.mk (V5.out.upto h2 (Nat.le_refl _))
    have U6 := Kp.mk (U5.out.upto h2 (Nat.le_refl _) (Nat.le_refl _))
    have R6 := Kp.mk (R5.out.upto h2 HAE.out)
    have Z6 : Kp (RowT w4 E E (.slice aa t1.length ca) t1) := ⟨h1⟩
    have B6 : Kp (Below A w w4) := ⟨B5.out.trans (h2.mono (by have := HAE.out; omega))⟩
    have S6 : Kp (E ≤ w4.heap.size) := ⟨by have := h2.size; have := HEe.out; omega⟩
    clear h1 h2 V5 U5 T5 R5 B5
    obtain ⟨l1, hl1⟩ : ∃ l1, l1 = t1.length := ⟨_, rfl⟩
    rw [← hl1] at Z6
    rw [← hl1]
    have HL1 := Kp.mk hl1
    clear hl1
    go_wp2_with (at_builtin; refine wpList_append_texts rfl _ _ rfl E E E _ t1 t2 rfl Z6.out (Nat.le_refl _) _ rfl U6.out L2.out.1 ?d0 ?d1 ?_)
    case d0 => have := L1.out.2; have := L2.out.2; omega
    case d1 => exact S6.out
    intro vb w5 h1 h2
    obtain ⟨ab, cb, rfl⟩ := h1.slice
    have V7 := Kp.mk (V6.out.upto h2 (Nat.le_refl _))
    have R7 := Kp.mk (R6.out.upto h2 HAE.out)
    have Z7 := Kp.mk h1
    have B7 : Kp (Below A w w5) := ⟨B6.out.trans (h2.mono (by have := HAE.out; omega))⟩
    have S7 : Kp (E ≤ w5.heap.size) := ⟨Nat.le_trans S6.out h2.size⟩
    clear h1 h2 V6 U6 R6 Z6 B6 S6
    obtain ⟨l2, hl2⟩ : ∃ l2, l2 = (t1 ++ t2).length := ⟨_, rfl⟩
    rw [← hl2] at Z7
    rw [← hl2]
    have HL2 : Kp (l2 ≤ 30) := ⟨by rw [hl2, List.length_append]; have := L1.out.2; have := L2.out.2; omega⟩
    clear hl2
    go_wp2_with fail
    refine (of_any _ _ 74 _ w5 V7.out (by simp [placeL_len, S1.out, S2.out])).mono ?_
    rintro q w6 ⟨rfl, h5⟩
    have V8 := Kp.mk (V7.out.keep h5)
    have R8 := Kp.mk (R7.out.keep h5)
    have Z8 := Kp.mk (Z7.out.below h5)
    have B8 : Kp (Below A w w6) := ⟨B7.out.trans (h5.mono (by have := R7.out.lt; omega))⟩
    have S8 : Kp (E ≤ w6.heap.size) := ⟨Nat.le_trans S7.out h5.size⟩
    clear h5 V7 R7 Z7 B7 S7
    rw [show dgV (shortL (74 :: (placeL d e s r ++ s1 ++ s2))) = dgV (shortL (joinT d e s r s1 s2)) from rfl, ← HNS.out]
    have HZl : Kp (NS.length = 16) := ⟨by rw [HNS.out]; exact shortL_len _⟩
    have HT9 := Kp.mk (texts_one V8.out)
    have Z9 : Kp (RowT (w6.alloc (.cells #[.slice ta tn tc] 22)) E E (.slice ab l2 cb) (t1 ++ t2)) := ⟨Z8.out.below (more (Below.refl _ _) _)⟩
    have R9 := Kp.mk (R8.out.alloc (.cells #[.slice ta tn tc] 22))
    have B9 : Kp (Below A w (w6.alloc (.cells #[.slice ta tn tc] 22))) := ⟨B8.out.alloc (by have := R8.out.lt; omega) _⟩
    have S9 : Kp (E ≤ (w6.alloc (.cells #[.slice ta tn tc] 22)).heap.size) := ⟨by have := S8.out; simp; omega⟩
    clear V8 R8 Z8 B8 S8
    have HC := Kp.mk (cells49 HZl.out)
    have HZZ := Kp.mk (size50 HZl.out)
    go_wp2_with (at_builtin; refine wpList_append_texts rfl _ _ rfl E _ E _ (t1 ++ t2) [joinT d e s r s1 s2] rfl Z9.out (Nat.le_refl _) _ rfl HT9.out (by simp) ?e0 ?e1 ?_)
    case e0 => have := L1.out.2; have := L2.out.2; simp; omega
    case e1 => exact S9.out
    intro vc w7 h1 h2
    rw [← List.append_assoc, ← HNT.out] at h1
    obtain ⟨ac, cc, rfl⟩ := h1.slice
    have HH := Kp.mk (h1.holds (Nat.le_trans S9.out h2.size))
    have R10 := Kp.mk (R9.out.upto h2 HAE.out)
    have B10 : Kp (Below A w w7) := ⟨B9.out.trans (h2.mono (by have := HAE.out; omega))⟩
    clear h1 h2 HT9 Z9 R9 B9 S9
    have HF := Kp.mk (R10.out.setRow NS)
    have HBf := Kp.mk (Below.row B10.out (g := A + 1 + 1) (by omega) (kv .u8 NS).toArray)
    have HHo := Kp.mk (HH.out.other (kv .u8 NS).toArray R10.out F1.out)
    go_wp2_with (refine wpList_store_row rfl 32 (.tmp 10) (.tmp 65) rfl (A + 1 + 1) (kv .u8 NS).toArray rfl rfl 32 _ R10.out HC.out HZZ.out (kv_all _ _) ?_)
    refine bodyPost_ret (v := .tuple #[dgV NS, .slice ac NT.length cc]) ?_ rfl ⟨_, by rw [HNSe.out], by rw [← HNTe.out]; exact HHo.out, by rw [← HA.out]; exact HBf.out⟩
    exact results_row_tmp rfl _ _ (A + 1 + 1) 32 _ (0, 0) _ _ rfl rfl HF.out Tryd.underlying32 rfl HC.out
end Go.Proofs.YtahmioiefmheeaaDoor

namespace Go.Proofs.YtahmioiefmheeaaDoor
open Go.RowKit

/-- How many levels a width has. -/
def lev (m : Int) : Int := if m = 1 then 0 else if m = 2 then 1 else if m = 4 then 2 else if m = 8 then 3 else -1
set_option maxRecDepth 100000 in
set_option maxHeartbeats 1000000 in
theorem levels_any (m : Int) (w : World) : Calls Tryd.prog 40 #[.int .i64 m] w fun r w' => r = .returned (.int .i64 (lev m)) ∧ w' = w := by
  go_enter Tryd.func40, Tryd.ntmps40
  unfold lev
  by_cases h1 : m = 1
  · subst h1
    go_wp2_with fail
    go_ret
    exact ⟨rfl, rfl⟩
  by_cases h2 : m = 2
  · subst h2
    go_wp2_with fail
    go_ret
    exact ⟨rfl, rfl⟩
  by_cases h4 : m = 4
  · subst h4
    go_wp2_with fail
    go_ret
    exact ⟨rfl, rfl⟩
  by_cases h8 : m = 8
  · subst h8
    go_wp2_with fail
    go_ret
    exact ⟨rfl, rfl⟩
  have t1 : (m == 1) = false := by rw [beq_eq_false_iff_ne]; exact h1
  have t2 : (m == 2) = false := by rw [beq_eq_false_iff_ne]; exact h2
  have t4 : (m == 4) = false := by rw [beq_eq_false_iff_ne]; exact h4
  have t8 : (m == 8) = false := by rw [beq_eq_false_iff_ne]; exact h8
  rw [if_neg h1, if_neg h2, if_neg h4, if_neg h8]
  go_wp2_with fail
  go_ret
  exact ⟨rfl, rfl⟩
set_option maxRecDepth 100000 in
set_option maxHeartbeats 1000000 in
theorem rlevels_any (m : Int) (w : World) : Calls Tryd.prog 41 #[.int .i64 m] w fun r w' => r = .returned (.int .i64 (lev m)) ∧ w' = w := by
  go_enter Tryd.func41, Tryd.ntmps41
  unfold lev
  by_cases h1 : m = 1
  · subst h1
    go_wp2_with fail
    go_ret
    exact ⟨rfl, rfl⟩
  by_cases h2 : m = 2
  · subst h2
    go_wp2_with fail
    go_ret
    exact ⟨rfl, rfl⟩
  by_cases h4 : m = 4
  · subst h4
    go_wp2_with fail
    go_ret
    exact ⟨rfl, rfl⟩
  by_cases h8 : m = 8
  · subst h8
    go_wp2_with fail
    go_ret
    exact ⟨rfl, rfl⟩
  have t1 : (m == 1) = false := by rw [beq_eq_false_iff_ne]; exact h1
  have t2 : (m == 2) = false := by rw [beq_eq_false_iff_ne]; exact h2
  have t4 : (m == 4) = false := by rw [beq_eq_false_iff_ne]; exact h4
  have t8 : (m == 8) = false := by rw [beq_eq_false_iff_ne]; exact h8
  rw [if_neg h1, if_neg h2, if_neg h4, if_neg h8]
  go_wp2_with fail
  go_ret
  exact ⟨rfl, rfl⟩
theorem lev_range (m : Int) : -1 ≤ lev m ∧ lev m ≤ 3 := by unfold lev; split <;> (try split) <;> (try split) <;> (try split) <;> omega
/-- What a rung costs. -/
def upC (m : Int) : Int := if m < 1 then 0 else if 8 < m then 15 else 2 * m - 1
set_option maxRecDepth 100000 in
set_option maxHeartbeats 1000000 in
theorem upCost_any (m : Int) (w : World) : Calls Tryd.prog 54 #[.int .i64 m] w fun r w' => r = .returned (.int .i64 (upC m)) ∧ w' = w := by
  go_enter Tryd.func54, Tryd.ntmps54
  unfold upC
  by_cases h1 : m < 1
  · rw [if_pos h1]
    go_wp2_with fail
    go_ret
    exact ⟨rfl, rfl⟩
  · rw [if_neg h1]
    have hm : min m 8 = if 8 < m then 8 else m := by split <;> omega
    by_cases h8 : 8 < m
    · rw [if_pos h8] at hm ⊢
      go_wp2_with fail
      go_ret
      exact ⟨by simp [hm], rfl⟩
    · rw [if_neg h8] at hm ⊢
      go_wp2_with fail
      go_ret
      exact ⟨by simp [hm], rfl⟩
set_option maxRecDepth 100000 in
set_option maxHeartbeats 1000000 in
theorem rupCost_any (m : Int) (w : World) : Calls Tryd.prog 55 #[.int .i64 m] w fun r w' => r = .returned (.int .i64 (upC m)) ∧ w' = w := by
  go_enter Tryd.func55, Tryd.ntmps55
  unfold upC
  by_cases h1 : m < 1
  · rw [if_pos h1]
    go_wp2_with fail
    go_ret
    exact ⟨rfl, rfl⟩
  · rw [if_neg h1]
    by_cases h8 : 8 < m
    · rw [if_pos h8]
      go_wp2_with fail
      go_ret
      exact ⟨rfl, rfl⟩
    · rw [if_neg h8]
      go_wp2_with fail
      go_ret
      exact ⟨rfl, rfl⟩
set_option maxRecDepth 100000 in
set_option maxHeartbeats 1000000 in
theorem riseCost_any (m : Int) (w : World) : Calls Tryd.prog 56 #[.int .i64 m] w fun r w' => r = .returned (.int .i64 (max (lev m) 0)) ∧ w' = w := by
  go_enter Tryd.func56, Tryd.ntmps56
  go_wp2_with fail
  refine (levels_any m w).mono ?_
  rintro r w1 ⟨rfl, rfl⟩
  go_wp2_with fail
  go_ret
  exact ⟨rfl, rfl⟩
set_option maxRecDepth 100000 in
set_option maxHeartbeats 1000000 in
theorem rriseCost_any (m : Int) (w : World) : Calls Tryd.prog 57 #[.int .i64 m] w fun r w' => r = .returned (.int .i64 (max (lev m) 0)) ∧ w' = w := by
  go_enter Tryd.func57, Tryd.ntmps57
  go_wp2_with fail
  refine (rlevels_any m w).mono ?_
  rintro r w1 ⟨rfl, rfl⟩
  obtain ⟨l, hl⟩ : ∃ l, l = lev m := ⟨_, rfl⟩
  have HL := Kp.mk hl
  rw [← hl]
  clear hl
  by_cases h0 : l < 0
  · have HM : Kp (max (lev m) 0 = 0) := ⟨by rw [← HL.out]; omega⟩
    go_wp2_with fail
    go_ret
    exact ⟨by rw [HM.out]; rfl, rfl⟩
  · have HM : Kp (max (lev m) 0 = l) := ⟨by rw [← HL.out]; omega⟩
    go_wp2_with fail
    refine (rlevels_any m w1).mono ?_
    rintro r w2 ⟨rfl, rfl⟩
    rw [← HL.out]
    go_wp2_with fail
    go_ret
    exact ⟨by rw [HM.out]; rfl, rfl⟩
end Go.Proofs.YtahmioiefmheeaaDoor

namespace Go.Proofs.YtahmioiefmheeaaDoor
open Go.RowKit

/-- Whether there is such a rung, such a node. -/
def rungB (m : Int) : Bool := decide (0 ≤ m) && decide (m ≤ 15)
def nodeB (i m : Int) : Bool := decide (0 ≤ lev m) && decide (0 ≤ i) && decide (i < m)
set_option maxRecDepth 100000 in
set_option maxHeartbeats 1000000 in
theorem isRung_any (m : Int) (w : World) : Calls Tryd.prog 95 #[.int .i64 m] w fun r w' => r = .returned (.bool (rungB m)) ∧ w' = w := by
  go_enter Tryd.func95, Tryd.ntmps95
  by_cases h1 : 0 ≤ m
  · by_cases h2 : m ≤ 15
    · have HR : Kp (rungB m = true) := ⟨by simp [rungB]; omega⟩
      go_wp2_with fail
      go_ret
      exact ⟨by rw [HR.out]; first | rfl | (simp; omega), rfl⟩
    · have HR : Kp (rungB m = false) := ⟨by simp [rungB]; omega⟩
      go_wp2_with fail
      go_ret
      exact ⟨by rw [HR.out]; first | rfl | (simp; omega), rfl⟩
  · have HR : Kp (rungB m = false) := ⟨by simp [rungB]; omega⟩
    go_wp2_with fail
    go_ret
    exact ⟨by rw [HR.out]; first | rfl | (simp; omega), rfl⟩
set_option maxRecDepth 100000 in
set_option maxHeartbeats 1000000 in
theorem isNode_any (i m : Int) (w : World) : Calls Tryd.prog 99 #[.int .i64 i, .int .i64 m] w fun r w' => r = .returned (.bool (nodeB i m)) ∧ w' = w := by
  go_enter Tryd.func99, Tryd.ntmps99
  go_wp2_with fail
  refine (levels_any m _).mono ?_
  rintro r w1 ⟨rfl, rfl⟩
  by_cases h0 : 0 ≤ lev m
  · by_cases h1 : 0 ≤ i
    · by_cases h2 : i < m
      · have HR : Kp (nodeB i m = true) := ⟨by simp [nodeB]; omega⟩
        generalize lev m = L at h0 ⊢
        go_wp2_with fail
        go_ret
        exact ⟨by rw [HR.out]; first | rfl | (simp; omega), rfl⟩
      · have HR : Kp (nodeB i m = false) := ⟨by simp [nodeB]; omega⟩
        generalize lev m = L at h0 ⊢
        go_wp2_with fail
        go_ret
        exact ⟨by rw [HR.out]; first | rfl | (simp; omega), rfl⟩
    · have HR : Kp (nodeB i m = false) := ⟨by simp [nodeB]; omega⟩
      generalize lev m = L at h0 ⊢
      go_wp2_with fail
      go_ret
      exact ⟨by rw [HR.out]; first | rfl | (simp; omega), rfl⟩
  · have HR : Kp (nodeB i m = false) := ⟨by simp [nodeB]; omega⟩
    generalize lev m = L at h0 ⊢
    go_wp2_with fail
    go_ret
    exact ⟨by rw [HR.out]; first | rfl | (simp; omega), rfl⟩
/-- Whether the document takes such a rung and width. -/
def rightB (m x : Int) : Bool := rungB m && decide (0 ≤ lev x)
set_option maxRecDepth 100000 in
set_option maxHeartbeats 1000000 in
theorem right_any (m x : Int) (w : World) : Calls Tryd.prog 51 #[.int .i64 m, .int .i64 x] w fun r w' => r = .returned (.bool (rightB m x)) ∧ w' = w := by
  go_enter Tryd.func51, Tryd.ntmps51
  by_cases h1 : 0 ≤ m
  · by_cases h2 : m ≤ 15
    · have HG : Kp (rungB m = true) := ⟨by simp [rungB]; omega⟩
      go_wp2_with fail
      refine (rlevels_any x _).mono ?_
      rintro r w1 ⟨rfl, rfl⟩
      by_cases h0 : 0 ≤ lev x
      · have HR : Kp (rightB m x = true) := ⟨by simp [rightB, HG.out]; omega⟩
        generalize lev x = L at h0 ⊢
        go_wp2_with fail
        go_ret
        exact ⟨by rw [HR.out]; first | rfl | (simp; omega), rfl⟩
      · have HR : Kp (rightB m x = false) := ⟨by simp [rightB, HG.out]; omega⟩
        generalize lev x = L at h0 ⊢
        go_wp2_with fail
        go_ret
        exact ⟨by rw [HR.out]; first | rfl | (simp; omega), rfl⟩
    · have HR : Kp (rightB m x = false) := ⟨by simp [rightB, rungB]; omega⟩
      go_wp2_with fail
      go_ret
      exact ⟨by rw [HR.out]; first | rfl | (simp; omega), rfl⟩
  · have HR : Kp (rightB m x = false) := ⟨by simp [rightB, rungB]; omega⟩
    go_wp2_with fail
    go_ret
    exact ⟨by rw [HR.out]; first | rfl | (simp; omega), rfl⟩
end Go.Proofs.YtahmioiefmheeaaDoor

namespace Go.Proofs.YtahmioiefmheeaaDoor
open Go.RowKit

set_option maxRecDepth 100000 in
set_option maxHeartbeats 1000000 in
theorem to_any (d e s : Int) (w : World) : Calls Tryd.prog 32 #[plV d e s] w fun r w' => r = .returned (plV d e s) ∧ Below w.heap.size w w' := by
  go_enter Tryd.func32, Tryd.ntmps32
  go_wp2_with fail
  refine bodyPost_ret (v := plV d e s) (results_cell_row rfl _ _ (w.heap.size + 1) 51 #[.int .i64 d, .int .u32 e, .int .u32 s] (0, 0) _ rfl ?_ Tryd.underlying51 rfl (cells51 d e s)) rfl ⟨rfl, ?_⟩
  · exact Blk.newAt _ (by simp)
  · exact more (more (Below.refl _ _) _) _
end Go.Proofs.YtahmioiefmheeaaDoor

namespace Go.Proofs.YtahmioiefmheeaaDoor
open Go.RowKit

/-- The row of n short sums behind i rounds. -/
def sumsRow (p : List Int) (n i : Nat) : List Int := p.take (i * 16) ++ List.replicate ((n - i) * 16) 0
theorem sumsRow_len {p : List Int} {n i : Nat} (h : p.length = n * 16) (hi : i ≤ n) : (sumsRow p n i).length = n * 16 := by
  unfold sumsRow
  rw [List.length_append, List.length_take, List.length_replicate, Nat.min_eq_left (by omega), Nat.sub_mul]
  omega
theorem splice_mid {α : Type} (A Z X : List α) (k : Nat) (hk : A.length = k) : splice (A ++ Z) k X = A ++ (X ++ Z.drop X.length) := by
  subst hk
  unfold splice
  rw [List.take_left, List.drop_append, List.drop_eq_nil_of_le (by omega), List.nil_append, show A.length + X.length - A.length = X.length by omega]
theorem sumsRow_step {p : List Int} {n i : Nat} (h : p.length = n * 16) (hi : i < n) : splice (bv (sumsRow p n i)) (i * 16) (bv ((p.drop (i * 16)).take 16)) = bv (sumsRow p n (i + 1)) := by
  have h1 : ((p.drop (i * 16)).take 16).length = 16 := by rw [List.length_take, List.length_drop]; omega
  unfold sumsRow bv
  rw [List.map_append, splice_mid _ _ _ (i * 16) (by rw [List.length_map, List.length_take]; omega), List.length_map, h1, ← List.map_drop, List.drop_replicate, ← List.map_append, ← List.map_append, ← List.append_assoc,
    show (n - i) * 16 - 16 = (n - (i + 1)) * 16 by rw [Nat.sub_mul, Nat.sub_mul]; omega, show (i + 1) * 16 = i * 16 + 16 by omega, List.take_add]
theorem sumsRow_all {p : List Int} {n : Nat} (h : p.length = n * 16) : sumsRow p n n = p := by
  unfold sumsRow
  rw [Nat.sub_self, Nat.zero_mul, List.replicate_zero, List.append_nil, List.take_of_length_le (by omega)]
theorem sumsRow_none {p : List Int} {n : Nat} : sumsRow p n 0 = List.replicate (n * 16) 0 := by
  simp [sumsRow]
theorem made16 (n : Nat) : madeCells #[.int .u8 0, .int .u8 0, .int .u8 0, .int .u8 0, .int .u8 0, .int .u8 0, .int .u8 0, .int .u8 0, .int .u8 0, .int .u8 0, .int .u8 0, .int .u8 0, .int .u8 0, .int .u8 0, .int .u8 0, .int .u8 0] n = (bv (List.replicate n 0)).toArray := by
  apply Array.ext_getElem?
  intro j
  by_cases hj : j < n
  · have h16 : j % 16 < 16 := Nat.mod_lt _ (by decide)
    have : ∀ k, k < 16 → (#[Value.int .u8 0, .int .u8 0, .int .u8 0, .int .u8 0, .int .u8 0, .int .u8 0, .int .u8 0, .int .u8 0, .int .u8 0, .int .u8 0, .int .u8 0, .int .u8 0, .int .u8 0, .int .u8 0, .int .u8 0, .int .u8 0] : Array Value)[k]! = .int .u8 0 := by
      intro k hk
      have hk' : k = 0 ∨ k = 1 ∨ k = 2 ∨ k = 3 ∨ k = 4 ∨ k = 5 ∨ k = 6 ∨ k = 7 ∨ k = 8 ∨ k = 9 ∨ k = 10 ∨ k = 11 ∨ k = 12 ∨ k = 13 ∨ k = 14 ∨ k = 15 := by omega
      rcases hk' with rfl | rfl | rfl | rfl | rfl | rfl | rfl | rfl | rfl | rfl | rfl | rfl | rfl | rfl | rfl | rfl <;> rfl
    have hh := this (j % 16) h16
    simp [madeCells, hj]
    simpa using hh
  · simp [madeCells, hj]
theorem info33m : (Tryd.prog.info? 33).map (fun i => (i.zero, i.size, i.bytes)) = some (some (.agg #[.int .u8 0, .int .u8 0, .int .u8 0, .int .u8 0, .int .u8 0, .int .u8 0, .int .u8 0, .int .u8 0, .int .u8 0, .int .u8 0, .int .u8 0, .int .u8 0, .int .u8 0, .int .u8 0, .int .u8 0, .int .u8 0]), 16, 16) := by kernel_rfl
/-- A row of n sums. -/
theorem make66 (n : Nat) (hn : n ≤ 65535) (w : World) : (Instr.makeSlice 66 (.int .i64 n) (.int .i64 n)).run Tryd.prog w = .ok (.slice (some ⟨w.heap.size, 0, none⟩) n n) (w.alloc (.cells (bv (List.replicate (n * 16) 0)).toArray 33)) := by
  obtain ⟨i0, hi, hz0, hz1, hz2⟩ := info_parts info33m
  have h := run_make (P := Tryd.prog) w 66 33 i0 _ Tryd.underlying66 hi hz0 .i64 .i64 n n (by omega) (Int.le_refl _) (by rw [hz2]; omega) (by omega)
  rw [h, ← made16, hz1]
  simp [Value.cells, Int.toNat_natCast]
/-- A row of cells into the middle of a row. -/
theorem Row.setCells {b : Nat} {t : TypeId} {k : IntKind} : ∀ (z : List Int) (o : Nat) (w : World) (l : List Int), o + z.length ≤ l.length → Row w b t k l → Row (w.setCells b o (kv k z)) b t k (splice l o z)
  | [], o, w, l, _, h => by
    have e : splice l o [] = l := by simp [splice]
    rw [e]
    exact h
  | x :: r, o, w, l, hl, h => by
    have h1 := Row.setCells (b := b) (t := t) (k := k) r (o + 1) _ (l.set o x) (by simp at hl ⊢; omega) (h.set o x)
    have e : splice (l.set o x) (o + 1) r = splice l o (x :: r) := by
      simp at hl
      unfold splice
      have e1 : (l.set o x).take (o + 1) = l.take o ++ [x] := by
        rw [List.take_add_one, List.take_set_of_le (Nat.le_refl o)]
        simp [List.getElem?_set_self (show o < l.length by omega)]
      have e2 : (l.set o x).drop (o + 1 + r.length) = l.drop (o + 1 + r.length) := List.drop_set_of_lt (by omega)
      rw [e1, e2, List.append_assoc, List.singleton_append, List.cons_append, List.length_cons, show o + 1 + r.length = o + (r.length + 1) by omega]
    rw [e] at h1
    exact h1
theorem Below.cells {B b : Nat} (hB : B ≤ b) : ∀ (vs : List Value) (o : Nat) (a w : World), Below B a w → Below B a (w.setCells b o vs)
  | [], _, _, _, h => h
  | v :: r, o, _, w, h => Below.cells hB r (o + 1) _ _ (h.setCell (p := ⟨b, o, none⟩) hB v)
theorem Row.there {w : World} {b : Nat} {t : TypeId} {k : IntKind} {l : List Int} (h : Row w b t k l) {o n : Nat} (hl : o + n ≤ l.length) : w.there b o n := fun j hj =>
  ⟨by rw [h.cell (i := o + j) (by omega)]; rfl, h.frozen (o + j)⟩
theorem Row.otherCells {b g : Nat} {t : TypeId} {k : IntKind} {l : List Int} (hne : g ≠ b) : ∀ (vs : List Value) (o : Nat) (w : World), Row w b t k l → Row (w.setCells g o vs) b t k l
  | [], _, _, h => h
  | v :: r, o, _, h => Row.otherCells hne r (o + 1) _ (h.other (p := ⟨g, o, none⟩) hne v)
theorem Blk.otherCells {b g : Nat} {x : Obj} (hne : g ≠ b) : ∀ (vs : List Value) (o : Nat) (w : World), Blk w b x → Blk (w.setCells g o vs) b x
  | [], _, _, h => h
  | v :: r, o, _, h => Blk.otherCells hne r (o + 1) _ (h.setOther (p := ⟨g, o, none⟩) hne v)
/-- The middle of a row. -/
theorem Row.mid {w : World} {b : Nat} {t : TypeId} {k : IntKind} {l : List Int} (h : Row w b t k l) {o n : Nat} (hl : o + n ≤ l.length) : w.rangeAt b o (kv k ((l.drop o).take n)) := by
  intro j v hv
  have hj : j < n := by
    have h1 := (List.getElem?_eq_some_iff.1 hv).1
    simp at h1
    omega
  rw [h.cell (i := o + j) (by omega)]
  rw [List.getElem?_map, List.getElem?_take, if_pos hj, List.getElem?_drop, List.getElem?_eq_getElem (by omega)] at hv
  simp at hv
  rw [List.getD_eq_getElem?_getD, List.getElem?_eq_getElem (by omega)]
  simpa using hv
end Go.Proofs.YtahmioiefmheeaaDoor

namespace Go.Proofs.YtahmioiefmheeaaDoor
open Go.RowKit

/-- Rows of sixteen, one behind the other. -/
def rowsL (f : Nat → List Int) : Nat → List Int
  | 0 => []
  | n + 1 => rowsL f n ++ f n
theorem rowsL_len {f : Nat → List Int} (h : ∀ i, (f i).length = 16) : ∀ n, (rowsL f n).length = n * 16
  | 0 => rfl
  | n + 1 => by rw [rowsL, List.length_append, rowsL_len h n, h]; omega
theorem rowsL_mid {f : Nat → List Int} (h : ∀ i, (f i).length = 16) : ∀ (n i : Nat), i < n → ((rowsL f n).drop (i * 16)).take 16 = f i
  | 0, _, hi => absurd hi (by omega)
  | n + 1, i, hi => by
    rw [rowsL]
    by_cases hn : i = n
    · subst hn
      rw [List.drop_append, List.drop_eq_nil_of_le (by rw [rowsL_len h]; omega), List.nil_append, rowsL_len h, Nat.sub_self, List.drop_zero, List.take_of_length_le (by rw [h]; omega)]
    · rw [List.drop_append_of_le_length (by rw [rowsL_len h]; omega), List.take_append_of_le_length (by rw [List.length_drop, rowsL_len h]; omega)]
      exact rowsL_mid h n i (by omega)
theorem sumsRow_put {p : List Int} {n i : Nat} (h : p.length = n * 16) (hi : i < n) : splice (sumsRow p n i) (i * 16) ((p.drop (i * 16)).take 16) = sumsRow p n (i + 1) := by
  have h1 : ((p.drop (i * 16)).take 16).length = 16 := by rw [List.length_take, List.length_drop]; omega
  unfold sumsRow
  rw [splice_mid _ _ _ (i * 16) (by rw [List.length_take]; omega), h1, List.drop_replicate, ← List.append_assoc,
    show (n - i) * 16 - 16 = (n - (i + 1)) * 16 by rw [Nat.sub_mul, Nat.sub_mul]; omega, show (i + 1) * 16 = i * 16 + 16 by omega, List.take_add]
set_option maxRecDepth 100000 in
set_option maxHeartbeats 1000000 in
theorem tree_one (d e s r : Int) (x : List Int) (n : Nat) (w : World) (hk : KonIs w) (he : 0 ≤ e ∧ e < 4294967296) (hs : 0 ≤ s ∧ s < 4294967296) (hx : x.length = 16) (hxb : Bytes x) (hn : n = 1) :
    Calls Tryd.prog 100 #[plV d e s, .int .i64 r, dgV x, .int .i64 n] w fun q w' => ∃ R B, q = .returned (.slice (some ⟨R, 0, none⟩) 1 1) ∧ Blk w' R (.cells #[.slice (some ⟨B, 0, none⟩) 1 1] 66) ∧ Row w' B 33 .u8 (shortL (leafT d e s r x 0)) ∧ Below w.heap.size w w' := by
  have HN := Kp.mk hn
  have h8 : n ≤ 8 := by omega
  clear hn
  have HK := Kp.mk hk
  have HE := Kp.mk he
  have HS := Kp.mk hs
  have HX := Kp.mk hx
  have HXB := Kp.mk hxb
  have HC := Kp.mk (cells50 hx)
  have hm := make66 n (by omega)
  clear hk he hs hx hxb
  go_enter Tryd.func100, Tryd.ntmps100
  go_wp2_with fail
  obtain ⟨A, hA⟩ : ∃ A, A = w.heap.size := ⟨_, rfl⟩
  have HA := Kp.mk hA
  rw [← hA]
  refine wp_world (fun W => Blk W A (.cells #[.int .i64 d, .int .u32 e, .int .u32 s] 51) ∧ Row W (A + 1) 33 .u8 x ∧ Row W (A + 1 + 1) 33 .u8 (List.replicate (n * 16) 0) ∧ Below A w W) ⟨?_, ?_, ?_, ?_⟩ ?_
  · exact Blk.old (Blk.old (Blk.newAt _ hA) _) _
  · exact Blk.old (Blk.newAt _ (by simp [hA])) _
  · have h := Blk.newAt (w := (w.alloc (.cells #[.int .i64 d, .int .u32 e, .int .u32 s] 51)).alloc (.cells (kv .u8 x).toArray 33)) (b := A + 1 + 1) (.cells (kv .u8 (List.replicate (n * 16) 0)).toArray 33) (by rw [hA]; simp)
    simpa [Row] using h
  · rw [hA]; exact more (more (more (Below.refl _ _) _) _) _
  clear hA hm
  rintro W ⟨g1, g2, g3, g4⟩
  have G1 := Kp.mk g1
  have G2 := Kp.mk g2
  have G3 := Kp.mk g3
  have G4 := Kp.mk g4
  clear g1 g2 g3 g4
  obtain ⟨p, hp⟩ : ∃ p, p = rowsL (fun i => shortL (leafT d e s r x i)) n := ⟨_, rfl⟩
  have HL : Kp (p.length = n * 16 ∧ ∀ i, i < n → (p.drop (i * 16)).take 16 = shortL (leafT d e s r x i)) := ⟨by rw [hp]; exact ⟨rowsL_len (fun i => shortL_len _) n, fun i hi => rowsL_mid (fun i => shortL_len _) n i hi⟩⟩
  have HP := Kp.mk hp
  clear hp
  go_loopw [15] (fun c wr => ∃ i : Nat, i ≤ n ∧ c = .int .i64 i ∧ Blk wr A (.cells #[.int .i64 d, .int .u32 e, .int .u32 s] 51) ∧ Row wr (A + 1) 33 .u8 x ∧ Row wr (A + 1 + 1) 33 .u8 (sumsRow p n i) ∧ Below A w wr) (fun c _ => n - (intOf c).toNat)
  case atStart => exact ⟨0, by omega, rfl, G1.out, G2.out, G3.out.as sumsRow_none.symm, G4.out⟩
  case round =>
    obtain ⟨i, hi, rfl, g1, g2, g3, g4⟩ := hrel
    clear G1 G2 G3 G4
    have G1 := Kp.mk g1
    have G2 := Kp.mk g2
    have G3 := Kp.mk g3
    have G4 := Kp.mk g4
    clear g1 g2 g3 g4
    by_cases hlt : i < n
    · go_wp2_with first
        | (refine wpList_load_row rfl 51 (.tmp 4) rfl A rfl 51 _ (0, 0) _ G1.out Tryd.underlying51 rfl (cells51 d e s) ?_)
        | (refine wpList_load_row rfl 33 (.tmp 6) rfl (A + 1) rfl 33 _ (0, 0) _ G2.out Tryd.underlying33 rfl HC.out ?_)
      refine (leaf_any d e s r x i wr (HK.out.keep (by rw [← HA.out]; exact G4.out)) HE.out HS.out HX.out HXB.out).mono ?_
      rintro q w1 ⟨rfl, hb⟩
      have F1 := Kp.mk (G1.out.keep hb)
      have F2 := Kp.mk (G2.out.keep hb)
      have F3 := Kp.mk (G3.out.keep hb)
      have F4 : Kp (Below A w w1) := ⟨G4.out.trans (hb.mono (Nat.le_of_lt G1.out.lt))⟩
      clear hb G1 G2 G3 G4
      obtain ⟨z, hz⟩ : ∃ z, z = shortL (leafT d e s r x i) := ⟨_, rfl⟩
      have HZ : Kp (z.length = 16 ∧ (p.drop (i * 16)).take 16 = z) := ⟨by rw [hz]; exact ⟨shortL_len _, HL.out.2 i hlt⟩⟩
      rw [← hz]
      clear hz
      go_wp2_with (refine wpList_store_mid rfl 33 (.tmp 25) (.tmp 24) rfl (A + 1 + 1) (i * 16) (kv .u8 z).toArray ?a0 rfl ?a1 ?a2 ?a3 ?_)
      case a0 => first | rfl | (go_simp; rfl)
      case a1 =>
        have h := F3.out.there (o := i * 16) (n := 16) (by rw [sumsRow_len HL.out.1 (by omega)]; omega)
        rw [kv_size, HZ.out.1]
        exact h
      case a2 => exact cells50 HZ.out.1
      case a3 => exact kv_all _ _
      have HR3 : Kp (Row (w1.setCells (A + 1 + 1) (i * 16) (kv .u8 z)) (A + 1 + 1) 33 .u8 (sumsRow p n (i + 1))) := ⟨by
        have h := Row.setCells z (i * 16) w1 _ (by rw [sumsRow_len HL.out.1 (by omega), HZ.out.1]; omega) F3.out
        have e := sumsRow_put HL.out.1 hlt
        rw [HZ.out.2] at e
        rw [e] at h
        exact h⟩
      exact ⟨⟨i + 1, by omega, by go_num, Blk.otherCells (by omega) _ _ _ F1.out, Row.otherCells (by omega) _ _ _ F2.out, HR3.out, Below.cells (by omega) _ _ _ _ F4.out⟩, by simp [intOf]; omega⟩
    · have hi' : i = 1 := by have := HN.out; omega
      have HN1 := HN.out
      subst hi' HN1
      have HP1 : Kp (sumsRow p 1 1 = shortL (leafT d e s r x 0)) := ⟨by rw [sumsRow_all HL.out.1, HP.out]; rfl⟩
      rw [HP1.out] at G3
      clear HL HP HP1 hlt hi h8 HN
      go_wp2_with fail
      refine (levels_any 1 _).mono ?_
      rintro q w1 ⟨rfl, rfl⟩
      rw [show lev 1 = 0 from rfl]
      go_wp2_with fail
      obtain ⟨R, hR⟩ : ∃ R, R = wr.heap.size := ⟨_, rfl⟩
      rw [← hR]
      refine wp_world (fun W => Blk W R (.cells #[.slice (some ⟨A + 1 + 1, 0, none⟩) 1 1] 66) ∧ Row W (A + 1 + 1) 33 .u8 (shortL (leafT d e s r x 0)) ∧ Below A w W) ⟨Blk.newAt _ hR, Blk.old G3.out _, G4.out.alloc (Nat.le_of_lt G1.out.lt) _⟩ ?_
      rintro W2 ⟨g1, g2, g3⟩
      have F1 := Kp.mk g1
      have F2 := Kp.mk g2
      have F3 := Kp.mk g3
      clear g1 g2 g3 hR G1 G2 G3 G4
      go_wp2_with fail
      go_loopw [11, 31] (fun t c wr => t = .slice (some ⟨R, 0, none⟩) 1 1 ∧ c = .int .i64 0 ∧ Kp (Blk wr R (.cells #[.slice (some ⟨A + 1 + 1, 0, none⟩) 1 1] 66)) ∧ Kp (Row wr (A + 1 + 1) 33 .u8 (shortL (leafT d e s r x 0))) ∧ Kp (Below A w wr)) (fun _ _ _ => 0)
      case atStart => exact ⟨rfl, rfl, F1, F2, F3⟩
      case round =>
        obtain ⟨rfl, rfl, E1, E2, E3⟩ := hrel
        clear F1 F2 F3
        go_wp2_with fail
        go_ret
        exact ⟨R, A + 1 + 1, rfl, E1.out, E2.out, by rw [← HA.out]; exact E3.out⟩
end Go.Proofs.YtahmioiefmheeaaDoor
