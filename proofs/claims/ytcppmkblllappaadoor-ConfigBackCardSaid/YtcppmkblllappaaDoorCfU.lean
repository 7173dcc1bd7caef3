/-
  The document's Parse.
-/
import Derived.Test.YtcppmkblllappaaDoorCfT
import Derived.Test.YtcppmkblllappaaDoorCfP
import Derived.Test.YtcppmkblllappaaDoorCfX
namespace Go.Proofs.YtcppmkblllappaaDoor
open Go.RowKit Go.Maps

theorem info42 {a : Int} {s : ByteArray} {b : Int} : (Tryd.prog.info? 42).map (·.size) = some (#[Value.int .i64 a, .string s, .int .i64 b] : Array Value).size := by kernel_rfl
theorem info42z : (Tryd.prog.info? 42).map (fun i => (i.zero, i.size)) = some (some (.agg #[.int .i64 0, .string ⟨#[]⟩, .int .i64 0]), 3) := by kernel_rfl
theorem info39z : (Tryd.prog.info? 39).map (fun i => (i.zero, i.size)) = some (some (.agg (rc r0).toArray), 15) := by kernel_rfl
theorem built40z : Tryd.prog.built 40 (#[] : Array (Nat × Value)).toList = some (rc r0).toArray := by kernel_rfl
theorem ret8 {tmps : Array Value} {w : World} {f : Nat → Int} {A : Nat} {a : Int} {s : ByteArray} {b : Int} (h2 : tmps.getD 2 undef = .pointer (some ⟨A, 0, none⟩)) (h3 : tmps.getD 3 undef = .pointer (some ⟨A + 1, 0, none⟩)) (hA : Blk w A (.cells (rc f).toArray 40)) (hm : Blk w (A + 1) (.cells #[.int .i64 a, .string s, .int .i64 b] 42)) :
    (results Tryd.f8 tmps).run Tryd.prog w = .ok (.tuple #[.agg (rc f).toArray, .agg #[.int .i64 a, .string s, .int .i64 b]]) w := by
  have h2' : tmps[2]?.getD undef = .pointer (some ⟨A, 0, none⟩) := by simpa using h2
  have h3' : tmps[3]?.getD undef = .pointer (some ⟨A + 1, 0, none⟩) := by simpa using h3
  have hl2 := run_loadVar_row (P := Tryd.prog) w A 40 40 (rc f).toArray (0, 0) _ hA Tryd.underlying40 rfl (info40s f)
  have hl3 := run_loadVar_row (P := Tryd.prog) w (A + 1) 42 42 #[.int .i64 a, .string s, .int .i64 b] (0, 0) _ hm Tryd.underlying42 rfl info42
  simp [results, Tryd.results8, h2', h3', asAddr, hl2, hl3]
def HB8 (w : World) : World := (w.alloc (.cells (rc r0).toArray 40)).alloc (.cells #[.int .i64 0, .string ⟨#[]⟩, .int .i64 0] 42)
theorem hb8_is (w : World) : Blk (HB8 w) w.heap.size (.cells (rc r0).toArray 40) ∧ Blk (HB8 w) (w.heap.size + 1) (.cells #[.int .i64 0, .string ⟨#[]⟩, .int .i64 0] 42) ∧ Below w.heap.size w (HB8 w) ∧ (HB8 w).heap.size = w.heap.size + 2 :=
  ⟨(Blk.new _ _).old _, Blk.newAt _ (by simp), more (more (Below.refl _ _) _) _, by simp [HB8]⟩
/-- What the first calls see. -/
structure R0 (w : World) (A : Nat) (W : World) : Prop where
  a : Blk W A (.cells (rc r0).toArray 40)
  m : Blk W (A + 1) (.cells #[.int .i64 0, .string ⟨#[]⟩, .int .i64 0] 42)
  hb : Below w.heap.size w W
theorem R0.keep {w W W' : World} {A : Nat} (h : R0 w A W) (hb : Below W.heap.size W W') : R0 w A W' := ⟨h.a.keep hb, h.m.keep hb, h.hb.trans (hb.mono h.hb.size)⟩
/-- The lines' row. -/
def LRow (w : World) (L : Nat) (lns : List ByteArray) : Prop := ∃ cur : Array Value, Blk w L (.cells cur 9) ∧ ∀ (j : Nat) x, lns[j]? = some x → cur[j]? = some (.string x)
theorem LRow.keepB {w w' : World} {L : Nat} {lns : List ByteArray} (h : LRow w L lns) (hb : w'.heap[L]? = w.heap[L]?) : LRow w' L lns := by
  obtain ⟨cur, h1, h2⟩ := h
  exact ⟨cur, hb.trans h1, h2⟩
theorem LRow.lt {w : World} {L : Nat} {lns : List ByteArray} (h : LRow w L lns) : L < w.heap.size := by
  obtain ⟨cur, h1, _⟩ := h
  exact h1.lt
theorem LRow.at_ {w : World} {L : Nat} {lns : List ByteArray} (h : LRow w L lns) {j : Nat} {x : ByteArray} (hj : lns[j]? = some x) : w.cell? ⟨L, j, none⟩ = some (.string x) := by
  obtain ⟨cur, h1, h2⟩ := h
  exact (h1.cell j).trans (h2 j x hj)
structure PR (w0 : World) (A G T L S : Nat) (lns : List ByteArray) (f st : Nat → Int) (w : World) : Prop where
  a : Blk w A (.cells (rc r0).toArray 40)
  m : Blk w (A + 1) (.cells #[.int .i64 0, .string ⟨#[]⟩, .int .i64 0] 42)
  g : Blk w G (.cells (rc f).toArray 40)
  t : Blk w T (.cells (rc st).toArray 39)
  l : LRow w L lns
  n : Blk w S nmObj
  hb : Below w0.heap.size w0 w
structure PNR (w0 : World) (A G T L S : Nat) : Prop where
  A0 : A = w0.heap.size
  AG : A + 1 < G
  GT : G < T
  TL : T < L
  LS : L < S
theorem PR.keep {w0 w w' : World} {A G T L S : Nat} {lns : List ByteArray} {f st : Nat → Int} (h : PR w0 A G T L S lns f st w) (hb : Below w.heap.size w w') : PR w0 A G T L S lns f st w' :=
  ⟨h.a.keep hb, h.m.keep hb, h.g.keep hb, h.t.keep hb, h.l.keepB (hb.block L h.l.lt), h.n.keep hb, h.hb.trans (hb.mono h.hb.size)⟩
theorem PR.set {w0 w : World} {A G T L S : Nat} {lns : List ByteArray} {f st : Nat → Int} (h : PR w0 A G T L S lns f st w) (hn : PNR w0 A G T L S) (k : Nat) (v u : Int) :
    PR w0 A G T L S lns (upd f k v) (upd st k u) ((w.setCell ⟨T, k, none⟩ (.int .i64 u)).setCell ⟨G, k, none⟩ (.int .i64 v)) := by
  have hh : ∀ b, b ≠ G → b ≠ T → ((w.setCell ⟨T, k, none⟩ (.int .i64 u)).setCell ⟨G, k, none⟩ (.int .i64 v)).heap[b]? = w.heap[b]? := fun b hb hc => (Below.heap_setCell _ _ _ _ hb).trans (Below.heap_setCell _ _ _ _ hc)
  have h1 := hn.A0; have h2 := hn.AG; have h3 := hn.GT; have h4 := hn.TL; have h5 := hn.LS
  have ht : Blk (w.setCell ⟨T, k, none⟩ (.int .i64 u)) T (.cells (rc (upd st k u)).toArray 39) := by
    have h6 := h.t.set k (.int .i64 u)
    rwa [show (rc st).toArray.setIfInBounds k (.int .i64 u) = (rc (upd st k u)).toArray by rw [List.setIfInBounds_toArray, rc_set]] at h6
  have hg0 : Blk (w.setCell ⟨T, k, none⟩ (.int .i64 u)) G (.cells (rc f).toArray 40) := (Below.heap_setCell _ _ _ _ (by show G ≠ T; omega)).trans h.g
  refine ⟨(hh A (by omega) (by omega)).trans h.a, (hh (A + 1) (by omega) (by omega)).trans h.m, ?_, (Below.heap_setCell _ _ _ _ (by show T ≠ G; omega)).trans ht, h.l.keepB (hh L (by omega) (by omega)), (hh S (by omega) (by omega)).trans h.n, (h.hb.setCell (p := ⟨T, k, none⟩) (by show w0.heap.size ≤ T; omega) _).setCell (p := ⟨G, k, none⟩) (by show w0.heap.size ≤ G; omega) _⟩
  have h7 := hg0.set k (.int .i64 v)
  rwa [show (rc f).toArray.setIfInBounds k (.int .i64 v) = (rc (upd f k v)).toArray by rw [List.setIfInBounds_toArray, rc_set]] at h7
/-- What the last region sees. -/
structure SR (w0 : World) (A T S : Nat) (st : Nat → Int) (w : World) : Prop where
  a : Blk w A (.cells (rc r0).toArray 40)
  m : ∃ x y z, Blk w (A + 1) (.cells #[.int .i64 x, .string y, .int .i64 z] 42)
  t : Blk w T (.cells (rc st).toArray 39)
  n : Blk w S nmObj
  hb : Below w0.heap.size w0 w
theorem SR.of {w0 w : World} {A G T L S : Nat} {lns : List ByteArray} {f st : Nat → Int} (h : PR w0 A G T L S lns f st w) : SR w0 A T S st w := ⟨h.a, ⟨_, _, _, h.m⟩, h.t, h.n, h.hb⟩
theorem SR.one {w0 w : World} {A G T L S : Nat} {st : Nat → Int} (h : SR w0 A T S st w) (hn : PNR w0 A G T L S) : SR w0 A T S st (w.setRow A (rc r0).toArray) := by
  have hh : ∀ b, b ≠ A → (w.setRow A (rc r0).toArray).heap[b]? = w.heap[b]? := fun b hb => setRow_other w A b _ hb
  have := hn.A0; have := hn.AG; have := hn.GT; have := hn.TL; have := hn.LS
  obtain ⟨x, y, z, hm⟩ := h.m
  exact ⟨Blk.setRow h.a _, ⟨x, y, z, (hh (A + 1) (by omega)).trans hm⟩, (hh T (by omega)).trans h.t, (hh S (by omega)).trans h.n, below_setRow h.hb (by omega) _⟩
theorem SR.two {w0 w : World} {A G T L S : Nat} {st : Nat → Int} (h : SR w0 A T S st w) (hn : PNR w0 A G T L S) {x : Int} {y : ByteArray} {z : Int} :
    SR w0 A T S st (w.setRow (A + 1) #[.int .i64 x, .string y, .int .i64 z]) ∧ Blk (w.setRow (A + 1) #[.int .i64 x, .string y, .int .i64 z]) (A + 1) (.cells #[.int .i64 x, .string y, .int .i64 z] 42) := by
  have hh : ∀ b, b ≠ A + 1 → (w.setRow (A + 1) #[.int .i64 x, .string y, .int .i64 z]).heap[b]? = w.heap[b]? := fun b hb => setRow_other w (A + 1) b _ hb
  have := hn.A0; have := hn.AG; have := hn.GT; have := hn.TL; have := hn.LS
  obtain ⟨x', y', z', hm⟩ := h.m
  have h2 : Blk (w.setRow (A + 1) #[.int .i64 x, .string y, .int .i64 z]) (A + 1) (.cells #[.int .i64 x, .string y, .int .i64 z] 42) := Blk.setRow hm _
  exact ⟨⟨(hh A (by omega)).trans h.a, ⟨x, y, z, h2⟩, (hh T (by omega)).trans h.t, (hh S (by omega)).trans h.n, below_setRow h.hb (by omega) _⟩, h2⟩
theorem ck_lt {f : Nat → Int} (h : ck f ≠ 15) : ck f < 15 := by
  have : ∀ n i, i + n = 15 → ckF f n i ≤ 15 := by
    intro n
    induction n with
    | zero => intro i _; exact Nat.le_refl _
    | succ n ih =>
      intro i hi
      unfold ckF
      split
      · omega
      · exact ih (i + 1) (by omega)
  have := this 15 0 rfl
  unfold ck at *
  omega
set_option maxRecDepth 100000 in
set_option maxHeartbeats 12800000 in
theorem rparse_short (s : ByteArray) (w : World) (hs : s.size ≤ 4096) : Calls Tryd.prog 8 #[.string s] w (PPost s w) := by
  have hs' : (s.size : Int) ≤ 4096 := by omega
  have HZ : Kp (Tryd.prog.built 40 (#[] : Array (Nat × Value)).toList = some (rc r0).toArray ∧ (Tryd.prog.info? 40).map (fun i => (i.zero, i.size)) = some (some (.agg (rc r0).toArray), 15) ∧ (Tryd.prog.info? 39).map (fun i => (i.zero, i.size)) = some (some (.agg (rc r0).toArray), 15) ∧ (Tryd.prog.info? 42).map (fun i => (i.zero, i.size)) = some (some (.agg #[.int .i64 0, .string ⟨#[]⟩, .int .i64 0]), 3)) := ⟨built40z, info40z, info39z, info42z⟩
  have HI : Kp (∀ f : Nat → Int, (Tryd.prog.info? 40).map (·.size) = some (rc f).toArray.size ∧ (rc r0).toArray.size = (rc f).toArray.size ∧ (rc f).toArray.all (·.oneCell') = true) := ⟨fun f => ⟨info40s f, by simp [rc_len], all_oneCell_toArray (rc_one f)⟩⟩
  obtain ⟨RES, hRES⟩ : ∃ RES, RES = runP (lines s) 0 ⟨dF, r0⟩ := ⟨_, rfl⟩
  have HPV : Kp (∀ w', Below w.heap.size w w' → PPost s w (.returned (.tuple #[.agg (rc (outP RES).1).toArray, .agg #[.int .i64 (outP RES).2.1, .string (outP RES).2.2.1, .int .i64 (outP RES).2.2.2]])) w') := ⟨fun w' hb => ⟨by rw [show outP RES = parseV s by unfold parseV; rw [if_neg (by omega), hRES]], hb⟩⟩
  have HR0 : Kp (runP ((lines s).drop 0) 0 ⟨dF, r0⟩ = RES) := ⟨by rw [hRES, List.drop_zero]⟩
  have HLS : Kp (∀ x ∈ lines s, x.size ≤ 4096) := ⟨fun x hx => Nat.le_trans (lines_size hx) hs⟩
  have HLL : Kp ((lines s).length ≤ 4097 ∧ 1 ≤ (lines s).length) := ⟨by
    have h := lines_count s
    have h2 := lines_len s
    omega⟩
  have HLN := fun wx => rlines_any s hs wx
  unfold LPost at HLN
  obtain ⟨LN, hLN⟩ : ∃ LN, LN = lines s := ⟨_, rfl⟩
  rw [← hLN] at HR0 HLS HLL
  simp only [← hLN] at HLN
  obtain ⟨A, hA⟩ : ∃ A, A = w.heap.size := ⟨_, rfl⟩
  have HA0 := Kp.mk hA
  have K1 : Kp (R0 w A (HB8 w) ∧ (HB8 w).heap.size = A + 2) := ⟨by have := hb8_is w; rw [← hA] at this; exact ⟨⟨this.1, this.2.1, by rw [hA] at this; exact this.2.2.1⟩, this.2.2.2⟩⟩
  have HS : Kp (HB8 w = (w.alloc (.cells (rc r0).toArray 40)).alloc (.cells #[.int .i64 0, .string ⟨#[]⟩, .int .i64 0] 42)) := ⟨rfl⟩
  clear hs hRES hLN hA
  go_enter Tryd.func8, Tryd.ntmps8
  go_upto_region 1 with (first
    | (refine wpList_alloc_row rfl 40 rfl (rc r0).toArray 15 HZ.out.2.1 ?_)
    | (refine wpList_alloc_row rfl 42 rfl #[.int .i64 0, .string ⟨#[]⟩, .int .i64 0] 3 HZ.out.2.2.2 ?_))
  rw [← HS.out]
  try rw [show (w.alloc (.cells (rc r0).toArray 40)).heap.size = w.heap.size + 1 by simp]
  rw [← HA0.out]
  revert K1
  generalize HB8 w = w1 at *
  intro K1
  clear HS
  go_wp2_with fail
  refine (rdefault_any _).mono ?_
  rintro r w2 ⟨rfl, hb⟩
  have K2 : Kp (R0 w A w2 ∧ A + 2 ≤ w2.heap.size) := ⟨K1.out.1.keep hb, by have := hb.size; have := K1.out.2; omega⟩
  clear hb K1
  obtain ⟨G, hG⟩ : ∃ G, G = w2.heap.size := ⟨_, rfl⟩
  have HG := Kp.mk hG
  have K3 : Kp (R0 w A ((w2.alloc (.cells (rc dF).toArray 40)).alloc (.cells (rc r0).toArray 39)) ∧ Blk ((w2.alloc (.cells (rc dF).toArray 40)).alloc (.cells (rc r0).toArray 39)) G (.cells (rc dF).toArray 40) ∧ Blk ((w2.alloc (.cells (rc dF).toArray 40)).alloc (.cells (rc r0).toArray 39)) (G + 1) (.cells (rc r0).toArray 39) ∧ A + 1 < G ∧ ((w2.alloc (.cells (rc dF).toArray 40)).alloc (.cells (rc r0).toArray 39)).heap.size = G + 2) := ⟨K2.out.1.keep (more (more (Below.refl _ _) _) _), (Blk.newAt _ hG).old _, Blk.newAt _ (by rw [hG]; simp), by have := K2.out.2; omega, by rw [hG]; simp⟩
  clear hG K2
  go_upto_region 5 with (first
    | (refine wpList_alloc_row rfl 40 rfl (rc r0).toArray 15 HZ.out.2.1 ?_)
    | (refine wpList_alloc_row rfl 39 rfl (rc r0).toArray 15 HZ.out.2.2.1 ?_)
    | (refine wpList_store_row rfl 40 (.tmp 4) (.tmp 23) rfl w2.heap.size (rc dF).toArray rfl rfl 40 _ (Blk.new _ _) (HI.out _).1 (HI.out _).2.1 (HI.out _).2.2 ?_
       rw [World.setRow_alloc_new]))
  try rw [show (w2.alloc (.cells (rc dF).toArray 40)).heap.size = w2.heap.size + 1 by simp]
  rw [← HG.out]
  clear HG
  revert K3
  generalize (w2.alloc (.cells (rc dF).toArray 40)).alloc (.cells (rc r0).toArray 39) = w3
  intro K3
  go_wp2_with fail
  refine (HLN _).mono ?_
  rintro r w4 ⟨v, rfl, hown, hb⟩
  rcases hown.2 with ⟨e, h0⟩ | ⟨L, cap, cur, e, hgB, hg, g1, g2, g3, g4⟩
  · exfalso; have := HLL.out.2; omega
  subst e
  have KL4 : Kp (LRow w4 L LN ∧ w3.heap.size ≤ L) := ⟨⟨cur, hg, fun j x hx => by
    have hj : j < LN.length := (List.getElem?_eq_some_iff.1 hx).1
    have h5 : (sv LN)[j]? = some (.string x) := by simp [sv, hx]
    rw [← g4, List.getElem?_take, if_pos (by omega)] at h5
    rw [← h5]
    simp⟩, hgB⟩
  obtain ⟨T, hT⟩ : ∃ T, T = G + 1 := ⟨_, rfl⟩
  rw [← hT]
  have K4 : Kp (R0 w A w4 ∧ Blk w4 G (.cells (rc dF).toArray 40) ∧ Blk w4 T (.cells (rc r0).toArray 39) ∧ A + 1 < G ∧ G < T ∧ T < L ∧ L < w4.heap.size) := ⟨K3.out.1.keep hb, K3.out.2.1.keep hb, by rw [hT]; exact K3.out.2.2.1.keep hb, K3.out.2.2.2.1, by omega, by have := K3.out.2.2.2.2; have := KL4.out.2; omega, KL4.out.1.lt⟩
  clear hown hgB hg g1 g2 g3 g4 hb K3 hT HLN cur
  go_wp2_with fail
  refine (rnames_any _).mono ?_
  rintro r w5 ⟨rfl, hw5⟩
  obtain ⟨S, hS⟩ : ∃ S, S = w4.heap.size := ⟨_, rfl⟩
  rw [← hS]
  have HPN : Kp (PNR w A G T L S) := ⟨⟨HA0.out, K4.out.2.2.2.1, K4.out.2.2.2.2.1, K4.out.2.2.2.2.2.1, by rw [hS]; exact K4.out.2.2.2.2.2.2⟩⟩
  have K5 : Kp (PR w A G T L S LN dF r0 w5) := ⟨by
    have hb : Below w4.heap.size w4 w5 := by rw [hw5]; exact more (Below.refl _ _) _
    have h1 := K4.out.1.keep hb
    exact ⟨h1.a, h1.m, K4.out.2.1.keep hb, K4.out.2.2.1.keep hb, KL4.out.1.keepB (hb.block L KL4.out.1.lt), by rw [hw5]; exact Blk.newAt _ hS, h1.hb⟩⟩
  clear hw5 hS K4 KL4
  have hll : LN.length ≤ 4097 := HLL.out.1
  have ID : Kp (I64s dF) := ⟨dF_ok⟩
  go_wp2_with fail
  go_loopw [8, 9, 10, 11, 12, 13, 14, 15, 16] (fun ct _ _ _ _ _ _ _ _ wr => ∃ (j : Nat) (f st : Nat → Int), j ≤ LN.length ∧ ct = .int .i64 j ∧ Kp (I64s f) ∧ Kp (runP (LN.drop j) j ⟨f, st⟩ = RES) ∧ Kp (PR w A G T L S LN f st wr)) (fun ct _ _ _ _ _ _ _ _ _ => LN.length - (intOf ct).toNat)
  case atStart => exact ⟨0, dF, r0, Nat.zero_le _, rfl, ID, HR0, K5⟩
  case round =>
    clear K5 HR0 ID
    obtain ⟨j, f, st, hj, rfl, IF, HR, K7⟩ := hrel
    by_cases hjl : j < LN.length
    · have hjl' : (j : Int) < (LN.length : Int) := by omega
      have hj4 : (j : Int) ≤ 4097 := by omega
      have HJL := Kp.mk hjl
      obtain ⟨l, hl⟩ : ∃ l, l = LN[j] := ⟨_, rfl⟩
      have hsl : l.size ≤ 4096 := HLS.out l (by rw [hl]; exact List.getElem_mem _)
      have hcl : wr.cell? ⟨L, j, none⟩ = some (.string l) := K7.out.l.at_ (by rw [List.getElem?_eq_getElem hjl, hl])
      have HR2 : Kp (runP (l :: LN.drop (j + 1)) j ⟨f, st⟩ = RES) := ⟨by rw [← HR.out, List.drop_eq_getElem_cons hjl, hl]⟩
      have HSL := Kp.mk hsl
      have HLJ : Kp (LN[j]? = some l) := ⟨by rw [List.getElem?_eq_getElem hjl, hl]⟩
      clear hl hj HR hjl
      rcases hd : l.data.toList with _ | ⟨c, r⟩
      · have hE : l.toList.isEmpty = true := by rw [ByteArray.toList_eq, hd]; rfl
        have HN : Kp (runP (LN.drop (j + 1)) (j + 1) ⟨f, st⟩ = RES) := ⟨by rw [← HR2.out]; exact (runP_skip (by unfold skipB; simp [hd])).symm⟩
        clear hd
        go_wp2_with fail
        exact ⟨⟨j + 1, f, st, by have := HJL.out; omega, by go_num, IF, HN, K7⟩, by have := HJL.out; simp [intOf]; omega⟩
      · have hE : l.toList.isEmpty = false := by rw [ByteArray.toList_eq, hd]; rfl
        have hix := first_byte hd
        by_cases h35 : c = 35
        · subst h35
          have HN : Kp (runP (LN.drop (j + 1)) (j + 1) ⟨f, st⟩ = RES) := ⟨by rw [← HR2.out]; exact (runP_skip (by unfold skipB; simp [hd])).symm⟩
          clear hd
          go_wp2_with fail
          exact ⟨⟨j + 1, f, st, by have := HJL.out; omega, by go_num, IF, HN, K7⟩, by have := HJL.out; simp [intOf]; omega⟩
        · have hc : ((c.toNat : Int) == 35) = false := by
            simp
            intro h
            exact h35 (UInt8.toNat_inj.1 (by rw [show c.toNat = 35 by omega]; rfl))
          have HSK : Kp (skipB l = false) := ⟨by unfold skipB; rw [hd]; simpa using h35⟩
          clear hd h35
          rcases first_or l.data.toList with hno | ⟨j0, hf0⟩
          · have HC := Kp.mk (cut_none hno)
            have HNO := Kp.mk hno
            have HP : Kp (∀ w', Below w.heap.size w w' → PPost s w (.returned (.tuple #[.agg (rc r0).toArray, .agg #[.int .i64 ((j : Int) + 1), .string l, .int .i64 10]])) w') := ⟨fun w' hb => by have := HPV.out w' hb; rw [← HR2.out, runP_form HSK.out (by rw [HC.out.2]; exact numV_eq _), HC.out.1] at this; exact this⟩
            have HNM : Kp (∀ wx, Calls Tryd.prog 28 #[.string ⟨#[]⟩] wx fun e w' => e = .returned (.tuple #[.int .i64 0, .bool false]) ∧ w' = wx) := ⟨fun wx => (rnum_any ⟨#[]⟩ (by decide) wx).mono fun e w' h => ⟨by rw [h.1, show numV ⟨#[]⟩ = none from numV_eq _]; rfl, h.2⟩⟩
            clear hno
            go_wp2_with fail
            clear hcl hE hix hc
            go_loopw [9, 10, 11, 12] (fun nm vl bl ct wx => ∃ k : Nat, k ≤ l.size ∧ ct = .int .i64 k ∧ nm = .string l ∧ vl = .string ⟨#[]⟩ ∧ bl = .bool false ∧ Kp (PR w A G T L S LN f st wx)) (fun _ _ _ ct _ => l.size - (intOf ct).toNat)
            case atStart => exact ⟨0, Nat.zero_le _, rfl, rfl, rfl, rfl, K7⟩
            case round =>
              clear K7
              obtain ⟨k, hkn, rfl, rfl, rfl, rfl, K8⟩ := hrel
              have hcl : wr.cell? ⟨L, j, none⟩ = some (.string l) := K8.out.l.at_ HLJ.out
              by_cases hk : k < l.size
              · have hkl : k < l.data.toList.length := by
                  have : l.size = l.data.toList.length := by show l.data.size = _; simp
                  omega
                obtain ⟨d, hd⟩ : ∃ d, d = l.data.toList[k] := ⟨_, rfl⟩
                have hdk : l.data.toList[k]? = some d := by rw [List.getElem?_eq_getElem hkl, hd]
                have ek : l[k]'hk = d := by
                  have h2 : l.data[k]? = some d := by simpa using hdk
                  exact (Array.getElem?_eq_some_iff.1 h2).2
                have hk4 : (k : Int) ≤ 4096 := by have := HSL.out; omega
                have hkk : (k : Int) < (l.size : Int) := by omega
                have HKL := Kp.mk hk
                have hd32 : ((d.toNat : Int) == 32) = false := by
                  simp
                  intro h
                  exact HNO.out d (List.mem_of_getElem? hdk) (UInt8.toNat_inj.1 (by show d.toNat = 32; omega))
                clear hd hdk hkl
                go_wp2_with fail
                exact ⟨⟨k + 1, by have := HKL.out; omega, by go_num, rfl, rfl, rfl, K8⟩, by have := HKL.out; simp [intOf]; omega⟩
              · have hkk : ¬ (k : Int) < (l.size : Int) := by omega
                clear hk hkn
                go_wp2_with fail
                refine (HNM.out _).mono ?_
                rintro e w9 ⟨rfl, rfl⟩
                clear hcl
                go_wp2_with (first
                  | (refine wpList_build_eq rfl 40 #[] rfl #[] (by simp) (rc r0).toArray HZ.out.1 ?_)
                  | (refine wpList_store_row rfl 40 (.tmp 2) (.tmp 90) rfl A (rc r0).toArray rfl rfl 40 _ K8.out.a (HI.out _).1 (HI.out _).2.1 (HI.out _).2.2 ?_
                     have KE : Kp (Blk (w9.setRow A (rc r0).toArray) A (.cells (rc r0).toArray 40) ∧ Blk (w9.setRow A (rc r0).toArray) (A + 1) (.cells #[.int .i64 0, .string ⟨#[]⟩, .int .i64 0] 42) ∧ Below w.heap.size w (w9.setRow A (rc r0).toArray)) := ⟨Blk.setRow K8.out.a _, (setRow_other w9 A (A + 1) _ (Nat.succ_ne_self A)).trans K8.out.m, below_setRow K8.out.hb (by rw [HPN.out.A0]; exact Nat.le_refl _) _⟩
                     revert KE
                     generalize w9.setRow A (rc r0).toArray = w8
                     intro KE)
                  | (refine wpList_store_row rfl 42 (.tmp 3) (.tmp 94) rfl (A + 1) #[.int .i64 ((j : Int) + 1), .string l, .int .i64 10] rfl rfl 42 _ KE.out.2.1 info42 rfl (three_one _ _ _) ?_
                     have KF : Kp (Blk (w8.setRow (A + 1) #[.int .i64 ((j : Int) + 1), .string l, .int .i64 10]) A (.cells (rc r0).toArray 40) ∧ Blk (w8.setRow (A + 1) #[.int .i64 ((j : Int) + 1), .string l, .int .i64 10]) (A + 1) (.cells #[.int .i64 ((j : Int) + 1), .string l, .int .i64 10] 42) ∧ Below w.heap.size w (w8.setRow (A + 1) #[.int .i64 ((j : Int) + 1), .string l, .int .i64 10])) := ⟨(setRow_other w8 (A + 1) A _ (Nat.succ_ne_self A).symm).trans KE.out.1, Blk.setRow KE.out.2.1 _, below_setRow KE.out.2.2 (by rw [HPN.out.A0]; exact Nat.le_succ _) _⟩
                     revert KF
                     generalize w8.setRow (A + 1) #[.int .i64 ((j : Int) + 1), .string l, .int .i64 10] = w9
                     intro KF))
                exact bodyPost_ret (v := .tuple #[.agg (rc r0).toArray, .agg #[.int .i64 ((j : Int) + 1), .string l, .int .i64 10]]) (ret8 rfl rfl KF.out.1 KF.out.2.1) rfl (HP.out w9 KF.out.2.2)
          · have HC := Kp.mk (cut_at hf0)
            have HF0 := Kp.mk hf0
            have hj0 : j0 < l.size := by
              have : l.size = l.data.toList.length := by show l.data.size = _; simp
              have := hf0.lt
              omega
            have HJ0 := Kp.mk hj0
            clear hf0 hj0
            obtain ⟨nm, hnm⟩ : ∃ nm, nm = cutN l := ⟨_, rfl⟩
            obtain ⟨vl, hvl⟩ : ∃ vl, vl = cutV l := ⟨_, rfl⟩
            have HNV : Kp (nm = cutN l ∧ vl = cutV l ∧ nm = l.extract 0 j0 ∧ vl = l.extract (j0 + 1) l.size ∧ vl.size ≤ 4096) := ⟨hnm, hvl, hnm.trans HC.out.1, hvl.trans HC.out.2, by rw [hvl]; exact Nat.le_trans (cut_size l).2 HSL.out⟩
            have HNM := fun wx => rnum_any vl HNV.out.2.2.2.2 wx
            unfold NPost at HNM
            clear hnm hvl
            go_wp2_with fail
            clear hcl hE hix hc
            go_loopw [9, 10, 11, 12] (fun xn xv bl ct wx => ∃ k : Nat, k ≤ j0 ∧ ct = .int .i64 k ∧ xn = .string l ∧ xv = .string ⟨#[]⟩ ∧ bl = .bool false ∧ Kp (PR w A G T L S LN f st wx)) (fun _ _ _ ct _ => l.size - (intOf ct).toNat)
            case atStart => exact ⟨0, Nat.zero_le _, rfl, rfl, rfl, rfl, K7⟩
            case round =>
              clear K7
              obtain ⟨k, hkn, rfl, rfl, rfl, rfl, K8⟩ := hrel
              have hcl : wr.cell? ⟨L, j, none⟩ = some (.string l) := K8.out.l.at_ HLJ.out
              have hk : k < l.size := Nat.lt_of_le_of_lt hkn HJ0.out
              have hkl : k < l.data.toList.length := by
                have : l.size = l.data.toList.length := by show l.data.size = _; simp
                omega
              obtain ⟨d, hd⟩ : ∃ d, d = l.data.toList[k] := ⟨_, rfl⟩
              have hdk : l.data.toList[k]? = some d := by rw [List.getElem?_eq_getElem hkl, hd]
              have ek : l[k]'hk = d := by
                have h2 : l.data[k]? = some d := by simpa using hdk
                exact (Array.getElem?_eq_some_iff.1 h2).2
              have hk4 : (k : Int) ≤ 4096 := by have := HSL.out; omega
              have hkk : (k : Int) < (l.size : Int) := by omega
              have HKL := Kp.mk hk
              by_cases hkj : k = j0
              · subst hkj
                have hd32 : ((d.toNat : Int) == 32) = true := by
                  have h := HF0.out.at_
                  rw [hdk] at h
                  have : d = 32 := by simpa using h
                  rw [this]; rfl
                have hsl1 : ∀ w, (Instr.slice 9 (.string l) none (some (.int .i64 (k : Int))) none).run Tryd.prog w = .ok (.string nm) w := fun w => by
                  have := run_slice_string_to_if (P := Tryd.prog) w 9 l .i64 (k : Int) Tryd.underlying9
                  rw [this, if_pos ⟨by omega, by omega⟩, HNV.out.2.2.1]; rfl
                have hsl2 : ∀ w, (Instr.slice 9 (.string l) (some (.int .i64 ((k : Int) + 1))) none none).run Tryd.prog w = .ok (.string vl) w := fun w => by
                  have := run_slice_string_from_if (P := Tryd.prog) w 9 l .i64 ((k : Int) + 1) Tryd.underlying9
                  rw [this, if_pos ⟨by omega, by omega⟩, HNV.out.2.2.2.1]; rfl
                clear hd hdk hkl hkn
                go_wp2_with fail
                refine (HNM _).mono ?_
                rintro e w9 ⟨rfl, rfl⟩
                clear hsl1 hsl2 hcl hd32 ek HNM
                cases hv : numV vl with
                | none =>
                  have HP : Kp (∀ w', Below w.heap.size w w' → PPost s w (.returned (.tuple #[.agg (rc r0).toArray, .agg #[.int .i64 ((j : Int) + 1), .string nm, .int .i64 10]])) w') := ⟨fun w' hb => by have := HPV.out w' hb; rw [← HR2.out, runP_form HSK.out (by rw [← HNV.out.2.1]; exact hv), ← HNV.out.1] at this; exact this⟩
                  clear hv
                  simp only [Option.isSome_none, Option.getD_none]
                  go_wp2_with (first
                    | (refine wpList_build_eq rfl 40 #[] rfl #[] (by simp) (rc r0).toArray HZ.out.1 ?_)
                    | (refine wpList_store_row rfl 40 (.tmp 2) (.tmp 90) rfl A (rc r0).toArray rfl rfl 40 _ K8.out.a (HI.out _).1 (HI.out _).2.1 (HI.out _).2.2 ?_
                       have KE : Kp (Blk (w9.setRow A (rc r0).toArray) A (.cells (rc r0).toArray 40) ∧ Blk (w9.setRow A (rc r0).toArray) (A + 1) (.cells #[.int .i64 0, .string ⟨#[]⟩, .int .i64 0] 42) ∧ Below w.heap.size w (w9.setRow A (rc r0).toArray)) := ⟨Blk.setRow K8.out.a _, (setRow_other w9 A (A + 1) _ (Nat.succ_ne_self A)).trans K8.out.m, below_setRow K8.out.hb (by rw [HPN.out.A0]; exact Nat.le_refl _) _⟩
                       revert KE
                       generalize w9.setRow A (rc r0).toArray = w8
                       intro KE)
                    | (refine wpList_store_row rfl 42 (.tmp 3) (.tmp 94) rfl (A + 1) #[.int .i64 ((j : Int) + 1), .string nm, .int .i64 10] rfl rfl 42 _ KE.out.2.1 info42 rfl (three_one _ _ _) ?_
                       have KF : Kp (Blk (w8.setRow (A + 1) #[.int .i64 ((j : Int) + 1), .string nm, .int .i64 10]) A (.cells (rc r0).toArray 40) ∧ Blk (w8.setRow (A + 1) #[.int .i64 ((j : Int) + 1), .string nm, .int .i64 10]) (A + 1) (.cells #[.int .i64 ((j : Int) + 1), .string nm, .int .i64 10] 42) ∧ Below w.heap.size w (w8.setRow (A + 1) #[.int .i64 ((j : Int) + 1), .string nm, .int .i64 10])) := ⟨(setRow_other w8 (A + 1) A _ (Nat.succ_ne_self A).symm).trans KE.out.1, Blk.setRow KE.out.2.1 _, below_setRow KE.out.2.2 (by rw [HPN.out.A0]; exact Nat.le_succ _) _⟩
                       revert KF
                       generalize w8.setRow (A + 1) #[.int .i64 ((j : Int) + 1), .string nm, .int .i64 10] = w9
                       intro KF))
                  exact bodyPost_ret (v := .tuple #[.agg (rc r0).toArray, .agg #[.int .i64 ((j : Int) + 1), .string nm, .int .i64 10]]) (ret8 rfl rfl KF.out.1 KF.out.2.1) rfl (HP.out w9 KF.out.2.2)
                | some v =>
                  have HV : Kp (numV vl = some v ∧ -9223372036854775808 ≤ v ∧ v ≤ 9223372036854775807) := ⟨hv, numV_ok hv⟩
                  clear hv
                  simp only [Option.isSome_some, Option.getD_some]
                  go_wp2_with fail
                  go_loopw [15, 16] (fun wh ct wx => ∃ k : Nat, k ≤ 15 ∧ ct = .int .i64 k ∧ wh = .int .i64 (if ixN nm < k then (ixN nm : Int) else -1) ∧ Kp (PR w A G T L S LN f st wx)) (fun _ ct _ => 15 - (intOf ct).toNat)
                  case atStart => exact ⟨0, Nat.zero_le _, rfl, by rw [if_neg (Nat.not_lt_zero _)], K8⟩
                  case round =>
                    clear K8
                    obtain ⟨i, hi, rfl, rfl, K9⟩ := hrel
                    by_cases hlt : i < 15
                    · have hlt' : (i : Int) < 15 := by omega
                      have HLT := Kp.mk hlt
                      have hq := nm_test nm hlt
                      have hcn : wr.cell? ⟨S, i, none⟩ = some (.string (nmA i)) := nm_at K9.out.n hlt
                      obtain ⟨ni, hni⟩ : ∃ ni, ni = nmA i := ⟨_, rfl⟩
                      rw [← hni] at hq hcn
                      generalize hwh : (if ixN nm < i then (ixN nm : Int) else -1) = wh
                      have HWH := Kp.mk hwh
                      clear hni hi hwh hlt
                      by_cases he : i = ixN nm
                      · have HE2 : Kp ((i : Int) = if ixN nm < i + 1 then (ixN nm : Int) else -1) := ⟨by rw [if_pos (by omega)]; omega⟩
                        rw [decide_eq_true he] at hq
                        clear he
                        go_wp2_with fail
                        exact ⟨⟨i + 1, by have := HLT.out; omega, by go_num, congrArg _ HE2.out, K9⟩, by have := HLT.out; simp [intOf]; omega⟩
                      · have HE2 : Kp (wh = if ixN nm < i + 1 then (ixN nm : Int) else -1) := ⟨by rw [← HWH.out]; by_cases h : ixN nm < i; rw [if_pos h, if_pos (by omega)]; rw [if_neg h, if_neg (by omega)]⟩
                        rw [decide_eq_false he] at hq
                        clear he
                        go_wp2_with fail
                        exact ⟨⟨i + 1, by have := HLT.out; omega, by go_num, congrArg _ HE2.out, K9⟩, by have := HLT.out; simp [intOf]; omega⟩
                    · have h15 : i = 15 := by omega
                      subst h15
                      by_cases hx : ixN nm < 15
                      · rw [if_pos hx]
                        have HST0 : Kp (stN st nm = st (ixN nm)) := ⟨by unfold stN; rw [if_pos hx]⟩
                        obtain ⟨k, hk⟩ : ∃ k, k = ixN nm := ⟨_, rfl⟩
                        rw [← hk] at hx HST0
                        rw [← hk]
                        have HK := Kp.mk hk
                        have hk0 : ¬ (k : Int) < 0 := by omega
                        have hk15 : (k : Int) < 15 := by omega
                        have t0 : wr.cell? ⟨T, k, none⟩ = some (.int .i64 (st k)) := K9.out.t.rc hx
                        have HKX := Kp.mk hx
                        obtain ⟨x, hxx⟩ : ∃ x, x = st k := ⟨_, rfl⟩
                        rw [← hxx] at t0 HST0
                        clear hk hx hlt hi hxx
                        by_cases hp : 0 < x
                        · have HP : Kp (∀ w', Below w.heap.size w w' → PPost s w (.returned (.tuple #[.agg (rc r0).toArray, .agg #[.int .i64 ((j : Int) + 1), .string nm, .int .i64 7]])) w') := ⟨fun w' hb => by have := HPV.out w' hb; rw [← HR2.out, runP_twice HSK.out (by rw [← HNV.out.2.1]; exact HV.out.1) (by rw [← HNV.out.1]; show 0 < stN st nm; rw [HST0.out]; exact hp), ← HNV.out.1] at this; exact this⟩
                          go_wp2_with (first
                            | (refine wpList_build_eq rfl 40 #[] rfl #[] (by simp) (rc r0).toArray HZ.out.1 ?_)
                            | (refine wpList_store_row rfl 40 (.tmp 2) (.tmp 117) rfl A (rc r0).toArray rfl rfl 40 _ K9.out.a (HI.out _).1 (HI.out _).2.1 (HI.out _).2.2 ?_
                               have KE : Kp (Blk (wr.setRow A (rc r0).toArray) A (.cells (rc r0).toArray 40) ∧ Blk (wr.setRow A (rc r0).toArray) (A + 1) (.cells #[.int .i64 0, .string ⟨#[]⟩, .int .i64 0] 42) ∧ Below w.heap.size w (wr.setRow A (rc r0).toArray)) := ⟨Blk.setRow K9.out.a _, (setRow_other wr A (A + 1) _ (Nat.succ_ne_self A)).trans K9.out.m, below_setRow K9.out.hb (by rw [HPN.out.A0]; exact Nat.le_refl _) _⟩
                               revert KE
                               generalize wr.setRow A (rc r0).toArray = w8
                               intro KE)
                            | (refine wpList_store_row rfl 42 (.tmp 3) (.tmp 121) rfl (A + 1) #[.int .i64 ((j : Int) + 1), .string nm, .int .i64 7] rfl rfl 42 _ KE.out.2.1 info42 rfl (three_one _ _ _) ?_
                               have KF : Kp (Blk (w8.setRow (A + 1) #[.int .i64 ((j : Int) + 1), .string nm, .int .i64 7]) A (.cells (rc r0).toArray 40) ∧ Blk (w8.setRow (A + 1) #[.int .i64 ((j : Int) + 1), .string nm, .int .i64 7]) (A + 1) (.cells #[.int .i64 ((j : Int) + 1), .string nm, .int .i64 7] 42) ∧ Below w.heap.size w (w8.setRow (A + 1) #[.int .i64 ((j : Int) + 1), .string nm, .int .i64 7])) := ⟨(setRow_other w8 (A + 1) A _ (Nat.succ_ne_self A).symm).trans KE.out.1, Blk.setRow KE.out.2.1 _, below_setRow KE.out.2.2 (by rw [HPN.out.A0]; exact Nat.le_succ _) _⟩
                               revert KF
                               generalize w8.setRow (A + 1) #[.int .i64 ((j : Int) + 1), .string nm, .int .i64 7] = w9
                               intro KF))
                          exact bodyPost_ret (v := .tuple #[.agg (rc r0).toArray, .agg #[.int .i64 ((j : Int) + 1), .string nm, .int .i64 7]]) (ret8 rfl rfl KF.out.1 KF.out.2.1) rfl (HP.out w9 KF.out.2.2)
                        · have HN2 : Kp (runP (LN.drop (j + 1)) (j + 1) ⟨upd f k v, upd st k (j + 1 : Nat)⟩ = RES) := ⟨by rw [← HR2.out, runP_set HSK.out (by rw [← HNV.out.2.1]; exact HV.out.1) (by rw [← HNV.out.1]; show ¬ 0 < stN st nm; rw [HST0.out]; exact hp) (by rw [← HNV.out.1, ← HK.out]; exact HKX.out), ← HNV.out.1, ← HK.out]⟩
                          have tz : wr.frozen? ⟨T, k, none⟩ = false := K9.out.t.frozen k
                          have lT : T < wr.heap.size := K9.out.t.lt
                          have IF2 : Kp (I64s (upd f k v)) := ⟨fun q => by
                            unfold upd
                            split
                            · exact HV.out.2
                            · exact IF.out q⟩
                          go_upto_region 33 with fail
                          obtain ⟨w11, hw11⟩ : ∃ w11, w11 = wr.setCell ⟨T, k, none⟩ (.int .i64 ((j : Int) + 1)) := ⟨_, rfl⟩
                          rw [← hw11]
                          have hbg : Blk w11 G (.cells (rc f).toArray 40) := by rw [hw11]; exact (Below.heap_setCell _ _ _ _ (by show G ≠ T; have := HPN.out.GT; omega)).trans K9.out.g
                          have g0 : w11.cell? ⟨G, k, none⟩ = some (.int .i64 (f k)) := hbg.rc HKX.out
                          have gz : w11.frozen? ⟨G, k, none⟩ = false := hbg.frozen k
                          have lG : G < w11.heap.size := hbg.lt
                          have K12 : Kp (PR w A G T L S LN (upd f k v) (upd st k (j + 1 : Nat)) (w11.setCell ⟨G, k, none⟩ (.int .i64 v))) := ⟨by rw [hw11]; exact K9.out.set HPN.out k v (j + 1 : Nat)⟩
                          clear hw11 hbg t0 tz lT K9 hp
                          go_wp2_with fail
                          exact ⟨⟨j + 1, upd f k v, upd st k (j + 1 : Nat), by have := HJL.out; omega, by go_num, IF2, HN2, K12⟩, by have := HJL.out; simp [intOf]; omega⟩
                      · rw [if_neg hx]
                        have HP : Kp (∀ w', Below w.heap.size w w' → PPost s w (.returned (.tuple #[.agg (rc r0).toArray, .agg #[.int .i64 ((j : Int) + 1), .string nm, .int .i64 6]])) w') := ⟨fun w' hb => by have := HPV.out w' hb; rw [← HR2.out, runP_none HSK.out (by rw [← HNV.out.2.1]; exact HV.out.1) (by rw [← HNV.out.1]; show ¬ 0 < stN st nm; unfold stN; rw [if_neg hx]; exact Int.lt_irrefl 0) (by rw [← HNV.out.1]; exact hx), ← HNV.out.1] at this; exact this⟩
                        clear hx hlt hi
                        go_wp2_with (first
                          | (refine wpList_build_eq rfl 40 #[] rfl #[] (by simp) (rc r0).toArray HZ.out.1 ?_)
                          | (refine wpList_store_row rfl 40 (.tmp 2) (.tmp 108) rfl A (rc r0).toArray rfl rfl 40 _ K9.out.a (HI.out _).1 (HI.out _).2.1 (HI.out _).2.2 ?_
                             have KE : Kp (Blk (wr.setRow A (rc r0).toArray) A (.cells (rc r0).toArray 40) ∧ Blk (wr.setRow A (rc r0).toArray) (A + 1) (.cells #[.int .i64 0, .string ⟨#[]⟩, .int .i64 0] 42) ∧ Below w.heap.size w (wr.setRow A (rc r0).toArray)) := ⟨Blk.setRow K9.out.a _, (setRow_other wr A (A + 1) _ (Nat.succ_ne_self A)).trans K9.out.m, below_setRow K9.out.hb (by rw [HPN.out.A0]; exact Nat.le_refl _) _⟩
                             revert KE
                             generalize wr.setRow A (rc r0).toArray = w8
                             intro KE)
                          | (refine wpList_store_row rfl 42 (.tmp 3) (.tmp 112) rfl (A + 1) #[.int .i64 ((j : Int) + 1), .string nm, .int .i64 6] rfl rfl 42 _ KE.out.2.1 info42 rfl (three_one _ _ _) ?_
                             have KF : Kp (Blk (w8.setRow (A + 1) #[.int .i64 ((j : Int) + 1), .string nm, .int .i64 6]) A (.cells (rc r0).toArray 40) ∧ Blk (w8.setRow (A + 1) #[.int .i64 ((j : Int) + 1), .string nm, .int .i64 6]) (A + 1) (.cells #[.int .i64 ((j : Int) + 1), .string nm, .int .i64 6] 42) ∧ Below w.heap.size w (w8.setRow (A + 1) #[.int .i64 ((j : Int) + 1), .string nm, .int .i64 6])) := ⟨(setRow_other w8 (A + 1) A _ (Nat.succ_ne_self A).symm).trans KE.out.1, Blk.setRow KE.out.2.1 _, below_setRow KE.out.2.2 (by rw [HPN.out.A0]; exact Nat.le_succ _) _⟩
                             revert KF
                             generalize w8.setRow (A + 1) #[.int .i64 ((j : Int) + 1), .string nm, .int .i64 6] = w9
                             intro KF))
                        exact bodyPost_ret (v := .tuple #[.agg (rc r0).toArray, .agg #[.int .i64 ((j : Int) + 1), .string nm, .int .i64 6]]) (ret8 rfl rfl KF.out.1 KF.out.2.1) rfl (HP.out w9 KF.out.2.2)
              · have hd32 : ((d.toNat : Int) == 32) = false := by
                  simp
                  intro h
                  exact HF0.out.no k (by omega) (by rw [hdk]; congr 1; exact UInt8.toNat_inj.1 (by show d.toNat = 32; omega))
                have HKJ : Kp (k < j0) := ⟨by omega⟩
                clear hd hdk hkl hkn hkj
                go_wp2_with fail
                exact ⟨⟨k + 1, by have := HKJ.out; omega, by go_num, rfl, rfl, rfl, K8⟩, by have := HKL.out; simp [intOf]; omega⟩
    · have hjl' : ¬ (j : Int) < (LN.length : Int) := by omega
      have HRE : Kp (RES = (none, ⟨f, st⟩)) := ⟨by rw [← HR.out, List.drop_eq_nil_of_le (by omega)]; rfl⟩
      clear HR hjl hj
      go_wp2_with (refine wpList_load_row rfl 40 (.tmp 4) rfl G rfl 40 _ (0, 0) _ K7.out.g Tryd.underlying40 rfl (HI.out _).1 ?_)
      refine (rcheck_any f _).mono ?_
      rintro e w8 ⟨rfl, hb⟩
      have K8 : Kp (PR w A G T L S LN f st w8) := ⟨K7.out.keep hb⟩
      clear hb K7
      by_cases hc : ck f = 15
      · have hE : ckR f = -1 := by unfold ckR; rw [if_pos hc]
        have HP : Kp (∀ w', Below w.heap.size w w' → PPost s w (.returned (.tuple #[.agg (rc f).toArray, .agg #[.int .i64 0, .string ⟨#[]⟩, .int .i64 0]])) w') := ⟨fun w' hb => by have := HPV.out w' hb; rw [HRE.out, outP_none, if_pos hc] at this; exact this⟩
        clear hc
        go_wp2_with (first
          | (refine wpList_load_row rfl 40 (.tmp 4) rfl G rfl 40 _ (0, 0) _ K8.out.g Tryd.underlying40 rfl (HI.out _).1 ?_)
          | (refine wpList_store_row rfl 40 (.tmp 2) (.tmp 142) rfl A (rc f).toArray rfl rfl 40 _ K8.out.a (HI.out _).1 (HI.out _).2.1 (HI.out _).2.2 ?_
             have KE : Kp (Blk (w8.setRow A (rc f).toArray) A (.cells (rc f).toArray 40) ∧ Blk (w8.setRow A (rc f).toArray) (A + 1) (.cells #[.int .i64 0, .string ⟨#[]⟩, .int .i64 0] 42) ∧ Below w.heap.size w (w8.setRow A (rc f).toArray)) := ⟨Blk.setRow K8.out.a _, (setRow_other w8 A (A + 1) _ (Nat.succ_ne_self A)).trans K8.out.m, below_setRow K8.out.hb (by rw [HPN.out.A0]; exact Nat.le_refl _) _⟩
             revert KE
             generalize w8.setRow A (rc f).toArray = w8
             intro KE)
          | (refine wpList_store_row rfl 42 (.tmp 3) (.tmp 143) rfl (A + 1) #[.int .i64 0, .string ⟨#[]⟩, .int .i64 0] rfl rfl 42 _ KE.out.2.1 info42 rfl (three_one _ _ _) ?_
             have KF : Kp (Blk (w8.setRow (A + 1) #[.int .i64 0, .string ⟨#[]⟩, .int .i64 0]) A (.cells (rc f).toArray 40) ∧ Blk (w8.setRow (A + 1) #[.int .i64 0, .string ⟨#[]⟩, .int .i64 0]) (A + 1) (.cells #[.int .i64 0, .string ⟨#[]⟩, .int .i64 0] 42) ∧ Below w.heap.size w (w8.setRow (A + 1) #[.int .i64 0, .string ⟨#[]⟩, .int .i64 0])) := ⟨(setRow_other w8 (A + 1) A _ (Nat.succ_ne_self A).symm).trans KE.out.1, Blk.setRow KE.out.2.1 _, below_setRow KE.out.2.2 (by rw [HPN.out.A0]; exact Nat.le_succ _) _⟩
             revert KF
             generalize w8.setRow (A + 1) #[.int .i64 0, .string ⟨#[]⟩, .int .i64 0] = w9
             intro KF))
        exact bodyPost_ret (v := .tuple #[.agg (rc f).toArray, .agg #[.int .i64 0, .string ⟨#[]⟩, .int .i64 0]]) (ret8 rfl rfl KF.out.1 KF.out.2.1) rfl (HP.out w9 KF.out.2.2)
      · have hck := ck_lt hc
        have HP : Kp (∀ w', Below w.heap.size w w' → PPost s w (.returned (.tuple #[.agg (rc r0).toArray, .agg #[.int .i64 (stN st (nmA (ck f))), .string (nmA (ck f)), .int .i64 30]])) w') := ⟨fun w' hb => by have := HPV.out w' hb; rw [HRE.out, outP_none, if_neg hc] at this; exact this⟩
        have hE : ckR f = (ck f : Int) := by unfold ckR; rw [if_neg hc]
        rw [hE]
        obtain ⟨k, hk⟩ : ∃ k, k = ck f := ⟨_, rfl⟩
        rw [← hk] at HP hck
        rw [← hk]
        obtain ⟨nm, hnm⟩ : ∃ nm, nm = nmA k := ⟨_, rfl⟩
        obtain ⟨x, hx⟩ : ∃ x, x = st k := ⟨_, rfl⟩
        have hsx : stN st (nmA k) = x := by unfold stN; rw [ix_nm hck, if_pos hck, hx]
        rw [hsx, ← hnm] at HP
        have HK15 := Kp.mk hck
        have HX : Kp (x = st k ∧ nm = nmA k) := ⟨hx, hnm⟩
        have hk0 : ¬ (k : Int) < 0 := by omega
        have hk15 : (k : Int) < 15 := by omega
        clear hc hE hk hnm hx hsx hck
        go_wp2_with fail
        refine wp_region_held_drew (S := fun w' => SR w A T S st w') (by kernel_rfl) (SR.of (K8.out.keep (Below.drew (Below.refl _ _)))) (fun hH => ?_)
        refine wpAnyH_take (i := 0) (oi := { dst := some 133, op := Go.Op.build 40 #[], type := 40, pos := "ref.go:131", after := #[], guard := none }) (v := .agg (rc r0).toArray) rfl (by kernel_rfl) (by kernel_rfl) (by kernel_rfl) (fun _ _ _ h => h) (Or.inl ⟨by rfl, fun wx hS => by
            first | (go_simp; done) | (go_simp; rfl)⟩) hH ?_
        simp only [Act.put, List.setIfInBounds_toArray, List.set_cons_zero, List.set_cons_succ]
        refine wpAnyH_take (i := 1) (oi := { dst := some 134, op := Go.Op.move (Go.Operand.tmp 17), type := 3, pos := "ref.go:131", after := #[{ on := 9, ground := Go.Ground.gcOnly Go.Departure.lateStores }], guard := none }) (v := .int .i64 (k : Int)) rfl (by kernel_rfl) (by kernel_rfl) (by kernel_rfl) (fun _ _ _ h => h) (Or.inl ⟨by rfl, fun wx hS => by
            first | (go_simp; done) | (go_simp; rfl)⟩) hH ?_
        simp only [Act.put, List.setIfInBounds_toArray, List.set_cons_zero, List.set_cons_succ]
        refine wpAnyH_take (i := 2) (oi := { dst := some 135, op := Go.Op.indexAddr 39 (Go.Operand.tmp 5) (Go.Operand.tmp 134), type := 0, pos := "ref.go:131", after := #[{ on := 1, ground := Go.Ground.data }, { on := 9, ground := Go.Ground.gcOnly Go.Departure.lateStores }], guard := none }) (v := .pointer (some ⟨T, k, none⟩)) rfl (by kernel_rfl) (by kernel_rfl) (by kernel_rfl) (fun _ _ _ h => h) (Or.inl ⟨by rfl, fun wx hS => by
            first | (go_simp; done) | (go_simp; rfl)⟩) hH ?_
        simp only [Act.put, List.setIfInBounds_toArray, List.set_cons_zero, List.set_cons_succ]
        refine wpAnyH_take (i := 3) (oi := { dst := some 136, op := Go.Op.load 3 (Go.Operand.tmp 135), type := 3, pos := "ref.go:131", after := #[{ on := 2, ground := Go.Ground.data }, { on := 9, ground := Go.Ground.gcOnly Go.Departure.lateStores }], guard := none }) (v := .int .i64 x) rfl (by kernel_rfl) (by kernel_rfl) (by kernel_rfl) (fun _ _ _ h => h) (Or.inl ⟨by rfl, fun wx hS => by
            have hc : wx.cell? ⟨T, k, none⟩ = some (.int .i64 x) := by rw [HX.out.1]; exact hS.t.rc HK15.out
            first | (go_simp; done) | (go_simp; rfl)⟩) hH ?_
        simp only [Act.put, List.setIfInBounds_toArray, List.set_cons_zero, List.set_cons_succ]
        refine wpAnyH_take (i := 4) (oi := { dst := some 137, op := Go.Op.move (Go.Operand.tmp 7), type := 52, pos := "ref.go:131", after := #[{ on := 9, ground := Go.Ground.gcOnly Go.Departure.lateStores }], guard := none }) (v := .slice (some ⟨S, 0, none⟩) 15 15) rfl (by kernel_rfl) (by kernel_rfl) (by kernel_rfl) (fun _ _ _ h => h) (Or.inl ⟨by rfl, fun wx hS => by
            first | (go_simp; done) | (go_simp; rfl)⟩) hH ?_
        simp only [Act.put, List.setIfInBounds_toArray, List.set_cons_zero, List.set_cons_succ]
        refine wpAnyH_take (i := 5) (oi := { dst := some 138, op := Go.Op.move (Go.Operand.tmp 17), type := 3, pos := "ref.go:131", after := #[{ on := 9, ground := Go.Ground.gcOnly Go.Departure.lateStores }], guard := none }) (v := .int .i64 (k : Int)) rfl (by kernel_rfl) (by kernel_rfl) (by kernel_rfl) (fun _ _ _ h => h) (Or.inl ⟨by rfl, fun wx hS => by
            first | (go_simp; done) | (go_simp; rfl)⟩) hH ?_
        simp only [Act.put, List.setIfInBounds_toArray, List.set_cons_zero, List.set_cons_succ]
        refine wpAnyH_take (i := 6) (oi := { dst := some 139, op := Go.Op.indexAddr 52 (Go.Operand.tmp 137) (Go.Operand.tmp 138), type := 0, pos := "ref.go:131", after := #[{ on := 4, ground := Go.Ground.data }, { on := 5, ground := Go.Ground.data }, { on := 9, ground := Go.Ground.gcOnly Go.Departure.lateStores }], guard := none }) (v := .pointer (some ⟨S, k, none⟩)) rfl (by kernel_rfl) (by kernel_rfl) (by kernel_rfl) (fun _ _ _ h => h) (Or.inl ⟨by rfl, fun wx hS => by
            first | (go_simp; done) | (go_simp; rfl)⟩) hH ?_
        simp only [Act.put, List.setIfInBounds_toArray, List.set_cons_zero, List.set_cons_succ]
        refine wpAnyH_take (i := 7) (oi := { dst := some 140, op := Go.Op.load 9 (Go.Operand.tmp 139), type := 9, pos := "ref.go:131", after := #[{ on := 6, ground := Go.Ground.data }, { on := 9, ground := Go.Ground.gcOnly Go.Departure.lateStores }], guard := none }) (v := .string nm) rfl (by kernel_rfl) (by kernel_rfl) (by kernel_rfl) (fun _ _ _ h => h) (Or.inl ⟨by rfl, fun wx hS => by
            have hc : wx.cell? ⟨S, k, none⟩ = some (.string nm) := by rw [HX.out.2]; exact nm_at hS.n HK15.out
            first | (go_simp; done) | (go_simp; rfl)⟩) hH ?_
        simp only [Act.put, List.setIfInBounds_toArray, List.set_cons_zero, List.set_cons_succ]
        refine wpAnyH_take (i := 8) (oi := { dst := some 141, op := Go.Op.build 42 #[(0, Go.Operand.tmp 136), (1, Go.Operand.tmp 140), (2, Go.Operand.const (Go.Value.int Go.IntKind.i64 30))], type := 42, pos := "ref.go:131", after := #[{ on := 3, ground := Go.Ground.data }, { on := 7, ground := Go.Ground.data }, { on := 9, ground := Go.Ground.gcOnly Go.Departure.lateStores }], guard := none }) (v := .agg #[.int .i64 x, .string nm, .int .i64 30]) rfl (by kernel_rfl) (by kernel_rfl) (by kernel_rfl) (fun _ _ _ h => h) (Or.inl ⟨by rfl, fun wx hS => by
            first | (go_simp; done) | (go_simp; rfl)⟩) hH ?_
        simp only [Act.put, List.setIfInBounds_toArray, List.set_cons_zero, List.set_cons_succ]
        clear K8
        refine wpAnyH_store (i := 9) (o := { dst := none, op := Go.Op.store 40 (Go.Operand.tmp 2) (Go.Operand.tmp 133), type := 0, pos := "ref.go:131", after := #[{ on := 0, ground := Go.Ground.data }, { on := 0, ground := Go.Ground.phase }, { on := 1, ground := Go.Ground.textOnly Go.Departure.lateStores }, { on := 2, ground := Go.Ground.textOnly Go.Departure.lateStores }, { on := 3, ground := Go.Ground.textOnly Go.Departure.lateStores }, { on := 4, ground := Go.Ground.textOnly Go.Departure.lateStores }, { on := 5, ground := Go.Ground.textOnly Go.Departure.lateStores }, { on := 6, ground := Go.Ground.textOnly Go.Departure.lateStores }, { on := 7, ground := Go.Ground.textOnly Go.Departure.lateStores }, { on := 8, ground := Go.Ground.textOnly Go.Departure.lateStores }], guard := none }) (by kernel_rfl) (by kernel_rfl) rfl rfl 40 (.tmp 2) (.tmp 133) rfl A (rc r0).toArray (by kernel_rfl) (by kernel_rfl) 40 _ hH.a (HI.out _).1 rfl (all_oneCell_toArray (rc_one r0)) (hH.one HPN.out) ?_
        have hH2 := hH.one HPN.out
        clear hH
        revert hH2
        generalize World.setRow _ A (rc r0).toArray = w10
        intro hH
        obtain ⟨m1, m2, m3, hM⟩ := hH.m
        refine wpAnyH_store (i := 10) (o := { dst := none, op := Go.Op.store 42 (Go.Operand.tmp 3) (Go.Operand.tmp 141), type := 0, pos := "ref.go:131", after := #[{ on := 8, ground := Go.Ground.data }, { on := 9, ground := Go.Ground.chain }, { on := 0, ground := Go.Ground.phase }, { on := 1, ground := Go.Ground.phase }, { on := 2, ground := Go.Ground.phase }, { on := 3, ground := Go.Ground.phase }, { on := 4, ground := Go.Ground.phase }, { on := 5, ground := Go.Ground.phase }, { on := 6, ground := Go.Ground.phase }, { on := 7, ground := Go.Ground.phase }, { on := 8, ground := Go.Ground.phase }, { on := 9, ground := Go.Ground.phase }], guard := none }) (by kernel_rfl) (by kernel_rfl) rfl rfl 42 (.tmp 3) (.tmp 141) rfl (A + 1) #[.int .i64 x, .string nm, .int .i64 30] (by kernel_rfl) (by kernel_rfl) 42 _ hM info42 rfl (three_one _ _ _) (hH.two HPN.out).1 ?_
        have hH2 := (hH.two HPN.out (x := x) (y := nm) (z := 30)).1
        have KF : Kp (Blk (w10.setRow (A + 1) #[.int .i64 x, .string nm, .int .i64 30]) A (.cells (rc r0).toArray 40) ∧ Blk (w10.setRow (A + 1) #[.int .i64 x, .string nm, .int .i64 30]) (A + 1) (.cells #[.int .i64 x, .string nm, .int .i64 30] 42) ∧ Below w.heap.size w (w10.setRow (A + 1) #[.int .i64 x, .string nm, .int .i64 30])) := ⟨hH2.a, (hH.two HPN.out).2, hH2.hb⟩
        clear hH hH2 hM
        revert KF
        generalize w10.setRow (A + 1) #[.int .i64 x, .string nm, .int .i64 30] = w11
        intro KF
        refine wpAnyH_done (by kernel_rfl) ?_ _
        go_wp2_with fail
        try rw [Exit.noGoto_ret]
        exact bodyPost_ret (v := .tuple #[.agg (rc r0).toArray, .agg #[.int .i64 x, .string nm, .int .i64 30]]) (ret8 (by kernel_rfl) (by kernel_rfl) KF.out.1 KF.out.2.1) rfl (HP.out w11 KF.out.2.2)
end Go.Proofs.YtcppmkblllappaaDoor
