/-
  All links of a key: plain lists.
  ots.first, the document's Start.
  Index of a row by value.
  ots.Recover.
  ots.Public, ots.Sign.
  The document's digits: plain arithmetic.
-/
import Derived.Test.YtpljjmdkagbjpaaDoorOd10
namespace Go.Proofs.YtpljjmdkagbjpaaDoor
open Go.RowKit

/-- The first k pieces, one behind the other. -/
def catS (g : Nat → List Int) (k : Nat) : List Int := ((List.range k).map g).flatten
theorem catS_succ (g : Nat → List Int) (k : Nat) : catS g (k + 1) = catS g k ++ g k := by
  unfold catS
  rw [List.range_succ, List.map_append, List.flatten_append]
  simp
theorem catS_len {g : Nat → List Int} (h : ∀ c, (g c).length = 16) (k : Nat) : (catS g k).length = k * 16 := by
  induction k with
  | zero => rfl
  | succ k ih => rw [catS_succ, List.length_append, ih, h]; omega
theorem catS_bytes {g : Nat → List Int} (h : ∀ c, Bytes (g c)) (k : Nat) : Bytes (catS g k) := by
  induction k with
  | zero => exact Bytes.nil
  | succ k ih => rw [catS_succ]; exact ih.append (h k)
theorem catS_ext {g f : Nat → List Int} {k : Nat} (h : ∀ c, c < k → g c = f c) : catS g k = catS f k := by
  unfold catS
  congr 1
  apply List.map_congr_left
  intro c hc
  exact h c (List.mem_range.1 hc)
theorem getS (S : List Int) (c i : Nat) : (linkAt S c)[i]? = if i < 16 then S[c * 16 + i]? else none := by
  unfold linkAt
  rw [List.getElem?_take]
  split
  · rw [List.getElem?_drop]
  · rfl
theorem links_ext {S T : List Int} (hS : S.length = 1088) (hT : T.length = 1088) (h : ∀ c, c < 68 → linkAt S c = linkAt T c) : S = T := by
  apply List.ext_getElem?
  intro i
  by_cases hi : i < 1088
  · have := congrArg (fun l : List Int => l[i % 16]?) (h (i / 16) (by omega))
    simp only [getS] at this
    rw [if_pos (by omega), if_pos (by omega), show i / 16 * 16 + i % 16 = i by omega] at this
    exact this
  · rw [List.getElem?_eq_none (by omega), List.getElem?_eq_none (by omega)]
theorem link_cat {g : Nat → List Int} (h : ∀ c, (g c).length = 16) {n c : Nat} (hc : c < n) : linkAt (catS g n) c = g c := by
  induction n with
  | zero => omega
  | succ n ih =>
    rw [catS_succ]
    have hl := catS_len h n
    unfold linkAt at ih ⊢
    by_cases e : c = n
    · subst e
      rw [List.drop_append, List.drop_of_length_le (by omega), hl, Nat.sub_self, List.nil_append, List.drop_zero, List.take_of_length_le (by rw [h]; omega)]
    · have h16 : c * 16 + 16 ≤ n * 16 := by omega
      rw [List.drop_append_of_le_length (by omega), List.take_append_of_le_length (by rw [List.length_drop]; omega)]
      exact ih (by omega)
theorem get_splice (l z : List Int) (o i : Nat) (ho : o + z.length ≤ l.length) : (splice l o z)[i]? = if o ≤ i ∧ i < o + z.length then z[i - o]? else l[i]? := by
  unfold splice
  have ht : (l.take o).length = o := by rw [List.length_take]; omega
  by_cases h1 : i < o
  · rw [if_neg (by omega), List.getElem?_append_left (by omega), List.getElem?_take, if_pos h1]
  · by_cases h2 : i < o + z.length
    · rw [if_pos ⟨by omega, h2⟩, List.getElem?_append_right (by omega), ht, List.getElem?_append_left (by omega)]
    · rw [if_neg (by omega), List.getElem?_append_right (by omega), ht, List.getElem?_append_right (by omega), List.getElem?_drop]
      congr 1
      omega
theorem link_splice {y u : List Int} (hy : y.length = 1088) (hu : u.length = 16) {k : Nat} (hk : k < 68) (c : Nat) : linkAt (splice y (k * 16) u) c = if c = k then u else linkAt y c := by
  apply List.ext_getElem?
  intro i
  rw [getS]
  by_cases hi : i < 16
  · rw [if_pos hi, get_splice _ _ _ _ (by omega)]
    by_cases e : c = k
    · subst e
      rw [if_pos rfl, if_pos (by omega)]
      congr 1
      omega
    · rw [if_neg e, if_neg (by omega), getS, if_pos hi]
  · rw [if_neg hi]
    split
    · rw [List.getElem?_eq_none (by omega)]
    · rw [getS, if_neg hi]
/-- The first k pieces, zeros behind them. -/
def padS (g : Nat → List Int) (k : Nat) : List Int := catS g k ++ List.replicate (1088 - k * 16) 0
theorem padS_none (g : Nat → List Int) : padS g 0 = List.replicate 1088 0 := by
  unfold padS catS
  rw [List.range_zero, List.map_nil, List.flatten_nil, List.nil_append, Nat.zero_mul]
theorem padS_len {g : Nat → List Int} (h : ∀ c, (g c).length = 16) {k : Nat} (hk : k ≤ 68) : (padS g k).length = 1088 := by
  unfold padS
  rw [List.length_append, catS_len h, List.length_replicate]
  omega
theorem padS_all {g : Nat → List Int} : padS g 68 = catS g 68 := by
  unfold padS
  rw [show 1088 - 68 * 16 = 0 from rfl, List.replicate_zero, List.append_nil]
theorem padS_step {g : Nat → List Int} (h : ∀ c, (g c).length = 16) {k : Nat} (hk : k < 68) : splice (padS g k) (k * 16) (g k) = padS g (k + 1) := by
  have hl := catS_len h k
  unfold splice padS
  rw [List.take_append_of_le_length (by omega), List.take_of_length_le (by omega), h, List.drop_append, hl, List.drop_of_length_le (by omega), List.nil_append, List.drop_replicate, catS_succ]
  rw [show 1088 - k * 16 - (k * 16 + 16 - k * 16) = 1088 - (k + 1) * 16 by omega, List.append_assoc]
/-- The link behind k steps of chain c of a key. -/
def ownS (s : List Int) (d x : Int) (c k : Nat) : List Int := runS d x c 0 (halfL (macL s (prfB 79 3 [d % 18446744073709551616, x, c]))) k
/-- What the key signs. -/
def signS (s : List Int) (d x : Int) (m : List Int) : List Int := catS (fun c => ownS s d x c (dgt m c)) 68
def topS (s : List Int) (d x : Int) : List Int := catS (fun c => ownS s d x c 3) 68
theorem ownS_len (s : List Int) (d x : Int) (c k : Nat) : (ownS s d x c k).length = 16 := runS_len _ _ _ _ (halfL_len (macL_len _ _)) _
theorem ownS_bytes (s : List Int) (d x : Int) (c k : Nat) : Bytes (ownS s d x c k) := runS_bytes _ _ _ _ ((digest_bytes _).take 16) _
theorem signS_len (s : List Int) (d x : Int) (m : List Int) : (signS s d x m).length = 1088 := catS_len (fun _ => ownS_len _ _ _ _ _) 68
theorem signS_bytes (s : List Int) (d x : Int) (m : List Int) : Bytes (signS s d x m) := catS_bytes (fun _ => ownS_bytes _ _ _ _ _) 68
theorem topS_len (s : List Int) (d x : Int) : (topS s d x).length = 1088 := catS_len (fun _ => ownS_len _ _ _ _ _) 68
theorem topS_bytes (s : List Int) (d x : Int) : Bytes (topS s d x) := catS_bytes (fun _ => ownS_bytes _ _ _ _ _) 68
/-- Along a chain, in two parts. -/
theorem runS_add (d x c : Int) (f : Nat) (z : List Int) (a : Nat) : ∀ b, runS d x c f z (a + b) = runS d x c ((f + a : Nat) : Int) (runS d x c f z a) b
  | 0 => rfl
  | b + 1 => by
    show shortL (linkT d x c ((f : Int) + ((a + b : Nat) : Int)) (runS d x c f z (a + b))) = shortL (linkT d x c (((f + a : Nat) : Int) + (b : Int)) (runS d x c ((f + a : Nat) : Int) (runS d x c f z a) b))
    rw [runS_add d x c f z a b]
    congr 2
    omega
theorem own_on (s : List Int) (d x : Int) (c : Nat) {g : Nat} (hg : g ≤ 3) : runS d x c g (ownS s d x c g) (3 - g) = ownS s d x c 3 := by
  have h := runS_add d x c 0 (halfL (macL s (prfB 79 3 [d % 18446744073709551616, x, c]))) g (3 - g)
  rw [show g + (3 - g) = 3 by omega, Nat.zero_add] at h
  exact h.symm
theorem recL_at (d x : Int) (m : List Int) {S : List Int} (h : S.length = 1088) (hb : Bytes S) (k : Nat) : k ≤ 68 → ∀ c, c < 68 → linkAt (recL d x m S k) c = if c < k then runS d x c (dgt m c) (linkAt S c) (3 - dgt m c) else linkAt S c := by
  induction k with
  | zero => intro _ c _; rw [if_neg (by omega)]; rfl
  | succ k ih =>
    intro hk c hc
    have hl := (recL_ok d x m h hb k (by omega)).1
    show linkAt (splice _ _ _) c = _
    rw [link_splice hl (runS_len _ _ _ _ (linkAt_len hl (by omega)) _) (by omega)]
    by_cases e : c = k
    · subst e
      rw [if_pos rfl, if_pos (by omega), ih (by omega) c hc, if_neg (by omega)]
    · rw [if_neg e, ih (by omega) c hc]
      by_cases h2 : c < k
      · rw [if_pos h2, if_pos (by omega)]
      · rw [if_neg h2, if_neg (by omega)]
/-- The key's own signature leads to its tops. -/
theorem recL_sign (s : List Int) (d x : Int) (m : List Int) : recL d x m (signS s d x m) 68 = topS s d x := by
  have hl := signS_len s d x m
  have hb := signS_bytes s d x m
  refine links_ext (recL_ok d x m hl hb 68 (by omega)).1 (topS_len s d x) fun c hc => ?_
  rw [recL_at d x m hl hb 68 (by omega) c hc, if_pos hc]
  unfold signS topS
  rw [link_cat (fun _ => ownS_len _ _ _ _ _) hc, link_cat (fun _ => ownS_len _ _ _ _ _) hc]
  exact own_on s d x c (dgt_is m c).2
end Go.Proofs.YtpljjmdkagbjpaaDoor

namespace Go.Proofs.YtpljjmdkagbjpaaDoor
open Go.RowKit

theorem infoS95 : (Tryd.prog.info? 95).map (·.size) = some 32 := by kernel_rfl
theorem infoS35 : (Tryd.prog.info? 35).map (·.size) = some 32 := by kernel_rfl
theorem cellsS95 {l : List Int} (h : l.length = 32) : (Tryd.prog.info? 95).map (·.size) = some (kv .u8 l).toArray.size := by rw [kv_size, h]; exact infoS95
theorem cellsS35 {l : List Int} (h : l.length = 32) : (Tryd.prog.info? 35).map (·.size) = some (kv .u8 l).toArray.size := by rw [kv_size, h]; exact infoS35
/-- Three numbers in a block. -/
theorem holdsQ_three {w : World} {b : Nat} {x y z : Int} {t : TypeId} (h : Blk w b (.cells #[.int .u64 x, .int .u64 y, .int .u64 z] t)) (hx : 0 ≤ x ∧ x < 18446744073709551616) (hy : 0 ≤ y ∧ y < 18446744073709551616) (hz : 0 ≤ z ∧ z < 18446744073709551616) : HoldsQ w (some ⟨b, 0, none⟩) [x, y, z] := by
  refine ⟨fun n hn => ?_, fun i hi => ⟨b, 0, rfl, h.lt, ?_⟩⟩
  · simp only [List.mem_cons, List.not_mem_nil, or_false] at hn
    rcases hn with rfl | rfl | rfl <;> assumption
  · match i, hi with
    | 0, _ => exact h.cell 0
    | 1, _ => exact h.cell 1
    | 2, _ => exact h.cell 2
    | i + 3, hi => exact absurd hi (by simp)
set_option maxRecDepth 100000 in
set_option maxHeartbeats 4000000 in
theorem ofirst_any (s : List Int) (d x : Int) (c : Nat) (w : World) (hk : KonIs w) (hx : 0 ≤ x ∧ x < 4294967296) (hs : s.length = 32) (hsb : Bytes s) (hc : c < 68) :
    Calls Tryd.prog 48 #[.agg (kv .u8 s).toArray, nameV d x, .int .i64 (c : Int)] w fun q w' => q = .returned (dgV (ownS s d x c 0)) ∧ Below w.heap.size w w' := by
  have HK := Kp.mk hk
  have HX := Kp.mk hx
  have HS := Kp.mk hs
  have HSB := Kp.mk hsb
  have hC := fun (w : World) => box_row (t := 95) (cs := kv .u8 s) (cellsS95 hs) w
  have HC := Kp.mk (cellsS95 hs)
  obtain ⟨q0, hq⟩ : ∃ q, q = ownS s d x c 0 := ⟨_, rfl⟩
  rw [← hq]
  have HQ := Kp.mk hq
  have HQl : Kp (q0.length = 16) := ⟨by rw [hq]; exact ownS_len _ _ _ _ _⟩
  have x0 := hx.1
  have x1 : x ≤ 4294967295 := by omega
  have c1 : (c : Int) ≤ 67 := by omega
  have k0 : (0 : Int) ≤ (c : Int) := by omega
  clear hk hx hs hsb hq hc
  go_enter Tryd.func48, Tryd.ntmps48
  go_wp2_with (first
    | (refine wpList_box_eq rfl 95 (.tmp 0) rfl _ rfl _ _ (hC _) ?_)
    | (refine wpList_load_row rfl 95 (.tmp 3) rfl w.heap.size rfl 95 (kv .u8 s).toArray (0, 0) _ (Blk.old (Blk.old (Blk.newAt _ rfl) _) _) Tryd.underlying95 rfl HC.out ?_))
  obtain ⟨A, hA⟩ : ∃ A, A = w.heap.size := ⟨_, rfl⟩
  have HA := Kp.mk hA
  rw [← hA, show IntKind.u64.wrap d = d % 18446744073709551616 by simp [IntKind.wrap, IntKind.signed, IntKind.bits]]
  refine calls_world (fun W => Row W (A + 2) 27 .u8 (fill 16 []) ∧ Blk W (A + 3) (.cells #[.int .u64 (d % 18446744073709551616), .int .u64 x, .int .u64 (c : Int)] 111) ∧ Below A w W) ⟨?_, ?_, ?_⟩ ?_
  · exact Blk.old (Blk.newAt _ (by simp [hA])) _
  · exact Blk.newAt _ (by simp [hA])
  · rw [hA]; exact more (more (more (more (Below.refl _ _) _) _) _) _
  rw [show A + 1 + 1 + 1 = A + 3 from rfl, show A + 1 + 1 = A + 2 from rfl]
  clear hA hC
  rintro W ⟨h1, h2, h3⟩
  refine (prf_any s 79 3 3 (some ⟨A + 3, 0, none⟩) [d % 18446744073709551616, x, (c : Int)] W (HK.out.keep (by rw [← HA.out]; exact h3)) HS.out HSB.out (by omega) rfl (holdsQ_three h2 (by omega) ⟨x0, by omega⟩ (by omega)) (by omega)).mono ?_
  rintro r w1 ⟨rfl, hb⟩
  have K1 := Kp.mk (h1.keep hb)
  have K4 : Kp (Below A w w1) := ⟨h3.trans (hb.mono (by have := Blk.lt h1; omega))⟩
  rw [show halfL (macL s (prfB 79 3 [d % 18446744073709551616, x, (c : Int)])) = q0 by rw [HQ.out]; rfl]
  have HCq : Kp ((Tryd.prog.info? 27).map (·.size) = some (kv .u8 q0).toArray.size) := ⟨by rw [kv_size, HQl.out]; kernel_rfl⟩
  have KR := Kp.mk (K1.out.setRow q0)
  have KB := Kp.mk (Below.row K4.out (g := A + 2) (by omega) (kv .u8 q0).toArray)
  clear h1 h2 h3 hb
  go_wp2_with (refine wpList_store_row rfl 27 (.tmp 6) (.tmp 17) rfl (A + 2) (kv .u8 q0).toArray rfl rfl 27 _ K1.out HCq.out (size50 HQl.out) (kv_all _ _) ?_)
  refine bodyPost_ret (v := dgV q0) ?_ rfl ⟨rfl, by rw [← HA.out]; exact KB.out⟩
  exact results_cell_row rfl _ _ (A + 2) 27 _ (0, 0) _ rfl KR.out Tryd.underlying27 rfl HCq.out
set_option maxRecDepth 100000 in
set_option maxHeartbeats 4000000 in
theorem ostart_any (s : List Int) (d x : Int) (c : Nat) (w : World) (hx : 0 ≤ x ∧ x < 4294967296) (hs : s.length = 32) (hsb : Bytes s) (hc : c < 68) :
    Calls Tryd.prog 50 #[.agg (kv .u8 s).toArray, nameV d x, .int .i64 (c : Int)] w fun q w' => q = .returned (dgV (ownS s d x c 0)) ∧ Below w.heap.size w w' := by
  have HX := Kp.mk hx
  have HS := Kp.mk hs
  have HSB := Kp.mk hsb
  have hC := fun (w : World) => box_row (t := 35) (cs := kv .u8 s) (cellsS35 hs) w
  have HC := Kp.mk (cellsS35 hs)
  obtain ⟨q0, hq⟩ : ∃ q, q = ownS s d x c 0 := ⟨_, rfl⟩
  rw [← hq]
  have HQ := Kp.mk hq
  have HQl : Kp (q0.length = 16) := ⟨by rw [hq]; exact ownS_len _ _ _ _ _⟩
  have x0 := hx.1
  have x1 : x ≤ 4294967295 := by omega
  have c1 : (c : Int) ≤ 67 := by omega
  have k0 : (0 : Int) ≤ (c : Int) := by omega
  clear hx hs hsb hq hc
  go_enter Tryd.func50, Tryd.ntmps50
  go_wp2_with (first
    | (refine wpList_box_eq rfl 35 (.tmp 0) rfl _ rfl _ _ (hC _) ?_)
    | (refine wpList_load_row rfl 35 (.tmp 3) rfl w.heap.size rfl 35 (kv .u8 s).toArray (0, 0) _ (Blk.old (Blk.old (Blk.newAt _ rfl) _) _) Tryd.underlying35 rfl HC.out ?_))
  obtain ⟨A, hA⟩ : ∃ A, A = w.heap.size := ⟨_, rfl⟩
  have HA := Kp.mk hA
  rw [← hA, show IntKind.u64.wrap d = d % 18446744073709551616 by simp [IntKind.wrap, IntKind.signed, IntKind.bits]]
  refine calls_world (fun W => Row W (A + 2) 25 .u8 (fill 16 []) ∧ Blk W (A + 3) (.cells #[.int .u64 (d % 18446744073709551616), .int .u64 x, .int .u64 (c : Int)] 111) ∧ Below A w W) ⟨?_, ?_, ?_⟩ ?_
  · exact Blk.old (Blk.newAt _ (by simp [hA])) _
  · exact Blk.newAt _ (by simp [hA])
  · rw [hA]; exact more (more (more (more (Below.refl _ _) _) _) _) _
  rw [show A + 1 + 1 + 1 = A + 3 from rfl, show A + 1 + 1 = A + 2 from rfl]
  clear hA hC
  rintro W ⟨h1, h2, h3⟩
  refine (rprf_any s 79 3 3 (some ⟨A + 3, 0, none⟩) [d % 18446744073709551616, x, (c : Int)] W HS.out HSB.out (by omega) rfl (holdsQ_three h2 (by omega) ⟨x0, by omega⟩ (by omega)) (by omega)).mono ?_
  rintro r w1 ⟨rfl, hb⟩
  have K1 := Kp.mk (h1.keep hb)
  have K4 : Kp (Below A w w1) := ⟨h3.trans (hb.mono (by have := Blk.lt h1; omega))⟩
  rw [show halfL (macL s (prfB 79 3 [d % 18446744073709551616, x, (c : Int)])) = q0 by rw [HQ.out]; rfl]
  have HCq : Kp ((Tryd.prog.info? 25).map (·.size) = some (kv .u8 q0).toArray.size) := ⟨by rw [kv_size, HQl.out]; kernel_rfl⟩
  have KR := Kp.mk (K1.out.setRow q0)
  have KB := Kp.mk (Below.row K4.out (g := A + 2) (by omega) (kv .u8 q0).toArray)
  clear h1 h2 h3 hb
  go_wp2_with (refine wpList_store_row rfl 25 (.tmp 6) (.tmp 17) rfl (A + 2) (kv .u8 q0).toArray rfl rfl 25 _ K1.out HCq.out (size50 HQl.out) (kv_all _ _) ?_)
  refine bodyPost_ret (v := dgV q0) ?_ rfl ⟨rfl, by rw [← HA.out]; exact KB.out⟩
  exact results_cell_row rfl _ _ (A + 2) 25 _ (0, 0) _ rfl KR.out Tryd.underlying25 rfl HCq.out
end Go.Proofs.YtpljjmdkagbjpaaDoor

namespace Go.Proofs.YtpljjmdkagbjpaaDoor
open Go.RowKit
theorem index_arr51 (l : List Int) (k : Nat) (hl : l.length = 68) (hk : k < 68) (w : World) : (Instr.index 51 (.agg (kv .u8 l).toArray) (.int .i64 (k : Int))).run Tryd.prog w = .ok (.int .u8 (l.getD k 0)) w := by
  have hn : 0 ≤ (k : Int) ∧ (k : Int) < ((68 : Nat) : Int) := by omega
  have hg : l[k]? = some (l.getD k 0) := by
    rw [List.getD_eq_getElem?_getD, List.getElem?_eq_getElem (by omega)]; rfl
  simp [Instr.index, run_underlying Tryd.underlying51, asIntOf, hn, go_sem]
  rw [if_pos hk, hg]
  rfl
end Go.Proofs.YtpljjmdkagbjpaaDoor

namespace Go.Proofs.YtpljjmdkagbjpaaDoor
open Go.RowKit

theorem predOp_val {P : Program} {ops : Array Oper} {o : Oper} {V : World → Value → Prop} {a : Act} {w : World} {v : Value} (hw : Region.wanted o (yielded ops a.tmps) = true) (he : (execOp a.eval o).run P w = .ok (.value v) w) (hv : V w v) : PredOp P ops o V a w := Or.inl ⟨hw, predRun_value he hv⟩
theorem cellsL27 {l : List Int} (h : l.length = 16) : (Tryd.prog.info? 27).map (·.size) = some (kv .u8 l).length := by rw [List.length_map, h]; exact info50
set_option maxRecDepth 100000 in
set_option maxHeartbeats 4000000 in
theorem recover_any (d x : Int) (m S : List Int) (w : World) (hk : KonIs w) (hx : 0 ≤ x ∧ x < 4294967296) (hm : m.length = 16) (hmb : Bytes m) (hS : S.length = 1088) (hSb : Bytes S) :
    Calls Tryd.prog 18 #[nameV d x, dgV m, .agg (kv .u8 S).toArray] w fun q w' => q = .returned (dgV (shortL (wholeT d x (recL d x m S 68)))) ∧ Below w.heap.size w w' := by
  have HK := Kp.mk hk
  have HX := Kp.mk hx
  have HM := Kp.mk (And.intro hm hmb)
  have HOK := Kp.mk (recL_ok d x m hS hSb)
  have hC := fun (w : World) => box_row (t := 41) (cs := kv .u8 S) (cells41 hS) w
  have hC2 := fun (w : World) => box_row (t := 27) (cs := kv .u8 m) (cells50 hm) w
  have HCm := Kp.mk (cells50 hm)
  obtain ⟨q0, hq⟩ : ∃ q, q = shortL (wholeT d x (recL d x m S 68)) := ⟨_, rfl⟩
  rw [← hq]
  have HQ := Kp.mk hq
  have HQl : Kp (q0.length = 16) := ⟨by rw [hq]; exact shortL_len _⟩
  clear hk hx hm hmb hS hSb hq
  go_enter Tryd.func18, Tryd.ntmps18
  go_wp2_with (first
    | (refine wpList_box_eq rfl 41 (.tmp 2) rfl _ rfl _ _ (hC _) ?_)
    | (refine wpList_box_eq rfl 27 (.tmp 1) rfl _ rfl _ _ (hC2 _) ?_)
    | (refine wpList_load_row rfl 27 (.tmp 4) rfl (w.heap.size + 1) rfl 27 (kv .u8 m).toArray (0, 0) _ (Blk.old (Blk.old (Blk.newAt _ (by simp)) _) _) Tryd.underlying27 rfl HCm.out ?_))
  obtain ⟨A, hA⟩ : ∃ A, A = w.heap.size := ⟨_, rfl⟩
  have HA := Kp.mk hA
  rw [← hA]
  refine calls_world (fun W => Blk W A (.cells #[.int .i64 d, .int .u32 x] 29) ∧ Row W (A + 2) 41 .u8 S ∧ Row W (A + 3) 27 .u8 (fill 16 []) ∧ Below A w W) ⟨?_, ?_, ?_, ?_⟩ ?_
  · exact Blk.old (Blk.old (Blk.old (Blk.newAt _ hA) _) _) _
  · exact Blk.old (Blk.newAt _ (by simp [hA])) _
  · exact Blk.newAt _ (by simp [hA])
  · rw [hA]; exact more (more (more (more (Below.refl _ _) _) _) _) _
  rw [show A + 1 + 1 + 1 = A + 3 from rfl, show A + 1 + 1 = A + 2 from rfl]
  clear hA hC hC2
  rintro W ⟨h1, h2, h3, h4⟩
  refine (digits_any m W HM.out.1 HM.out.2).mono ?_
  rintro r w1 ⟨rfl, hb⟩
  have G1 := Kp.mk (Blk.keep h1 hb)
  have G2 := Kp.mk (h2.keep hb)
  have G3 := Kp.mk (h3.keep hb)
  have G4 : Kp (Below A w w1) := ⟨h4.trans (hb.mono (Nat.le_of_lt (Blk.lt h1)))⟩
  have HD : Kp (∀ c, c < 68 → (digS m).getD c 0 = digA m c) := ⟨fun c hc => digS_at m hc⟩
  have HDl : Kp ((digS m).length = 68) := ⟨digS_len m⟩
  generalize digS m = dl at *
  clear h1 h2 h3 h4 hb
  go_wp2_with fail
  go_loopw [11] (fun c9 wr => ∃ k : Nat, k ≤ 68 ∧ c9 = .int .i64 k ∧ Kp (Blk wr A (.cells #[.int .i64 d, .int .u32 x] 29)) ∧ Kp (Row wr (A + 2) 41 .u8 (recL d x m S k)) ∧ Kp (Row wr (A + 3) 27 .u8 (fill 16 [])) ∧ Kp (Below A w wr)) (fun c _ => 68 - (intOf c).toNat)
  case atStart => exact ⟨0, by omega, rfl, G1, G2, G3, G4⟩
  case round =>
    obtain ⟨k, hk, rfl, F1, F2, F3, F4⟩ := hrel
    clear G1 G2 G3 G4
    have HYk := Kp.mk (HOK.out k hk)
    by_cases hlt : k < 68
    · have hdk := HD.out k hlt
      have HYn := Kp.mk (show recL d x m S (k + 1) = splice (recL d x m S k) (k * 16) (runS d x k (dgt m k) (linkAt (recL d x m S k) k) (3 - dgt m k)) from rfl)
      generalize recL d x m S k = y at *
      have HYl : Kp (y.length = 1088) := ⟨HYk.out.1⟩
      obtain ⟨z, hz⟩ : ∃ z, z = linkAt y k := ⟨_, rfl⟩
      rw [← hz] at HYn
      have HZ : Kp (z = (y.drop (k * 16)).take 16) := ⟨hz⟩
      have HZl : Kp (z.length = 16) := ⟨by rw [hz]; exact linkAt_len HYk.out.1 hlt⟩
      have HZb : Kp (Bytes z) := ⟨by rw [hz]; exact linkAt_bytes HYk.out.2 k⟩
      obtain ⟨hg1, hg2⟩ := dgt_is m k
      rw [← hg1] at hdk
      generalize dgt m k = g at *
      obtain ⟨u, hu⟩ : ∃ u, u = runS d x k g z (3 - g) := ⟨_, rfl⟩
      rw [← hu] at HYn
      have HU := Kp.mk hu
      have HUl : Kp (u.length = 16) := ⟨by rw [hu]; exact runS_len d x k g HZl.out _⟩
      clear hz hu hg1
      have hlt' : (k : Int) < 68 := by omega
      have hix : ∀ w : World, (Instr.index 51 (.agg (kv .u8 dl).toArray) (.int .i64 (k : Int))).run Tryd.prog w = .ok (.int .u8 (g : Int)) w := fun w => by
        rw [← hdk]
        exact index_arr51 dl k HDl.out hlt w
      clear hdk
      go_wp2_with fail
      refine wp_region_pred (fun w' => Blk w' A (.cells #[.int .i64 d, .int .u32 x] 29) ∧ Row w' (A + 2) 41 .u8 y ∧ Row w' (A + 3) 27 .u8 (fill 16 []) ∧ Below A w w') [0, 1, 2, 3, 4, 5, 6, 7, 8, 9] [10]
        (fun ι w' v => match ι with
          | 0 | 2 | 5 => v = .int .i64 k
          | 1 => v = nameV d x
          | 3 => v = .int .u8 g
          | 4 => v = .int .i64 g
          | 6 | 9 => v = .pointer (some ⟨A + 2, k * 16, none⟩)
          | 7 => v = dgV z
          | 8 => v = dgV u
          | _ => v = .bool true)
        [[], [], [], [], [(3, some 18)], [], [(5, some 20)], [(6, some 21)], [(1, some 16), (2, some 17), (4, some 19), (7, some 22)], [(0, some 15), (1, some 16), (2, some 17), (3, some 18), (4, some 19), (5, some 20), (6, some 21), (7, some 22), (8, some 23)]]
        [(0, some 15), (1, some 16), (2, some 17), (3, some 18), (4, some 19), (5, some 20), (6, some 21), (7, some 22), (8, some 23), (9, some 24)]
        (by kernel_rfl) (by kernel_rfl) (by kernel_rfl) (by kernel_rfl) (by kernel_rfl) (by kernel_rfl) (by decide) (by decide) (fun w1 w2 h hb => ⟨h.1.keep hb, h.2.1.keep hb, h.2.2.1.keep hb, h.2.2.2.trans (hb.mono (Nat.le_of_lt h.1.lt))⟩) ?_ ⟨F1.out.draw, F2.out.drew, F3.out.drew, F4.out.drew⟩ ?_ ?_
      · intro ι w1 w2 v h hb
        match ι, h with
        | 0, h => exact h
        | 1, h => exact h
        | 2, h => exact h
        | 3, h => exact h
        | 4, h => exact h
        | 5, h => exact h
        | 6, h => exact h
        | 7, h => exact h
        | 8, h => exact h
        | 9, h => exact h
        | _ + 10, h => exact h
      · refine ⟨fun γ wx hS h => ?_, fun γ wx hS h => ?_, fun γ wx hS h => ?_, fun γ wx hS h => ?_, fun γ wx hS h => ?_, fun γ wx hS h => ?_, fun γ wx hS h => ?_, fun γ wx hS h => ?_, fun γ wx hS h => ?_, fun γ wx hS h => ?_, trivial⟩
        · refine ⟨_, rfl, Or.inl ⟨rfl, predRun_value (v := .int .i64 k) (by simp only [putE]; first | rfl | (go_simp; done) | (go_simp; with_reducible rfl) | (go_simp; rfl)) rfl⟩⟩
        · refine ⟨_, rfl, Or.inl ⟨rfl, predRun_value (exec_load_blk 29 (.tmp 3) rfl (A) rfl 29 _ (0, 0) _ hS.1 Tryd.underlying29 rfl (cellsN29 d x)) rfl⟩⟩
        · refine ⟨_, rfl, Or.inl ⟨rfl, predRun_value (v := .int .i64 k) (by simp only [putE]; first | rfl | (go_simp; done) | (go_simp; with_reducible rfl) | (go_simp; rfl)) rfl⟩⟩
        · refine ⟨_, rfl, Or.inl ⟨rfl, predRun_value (v := .int .u8 g) (by simp only [putE]; first | rfl | (go_simp; done) | (go_simp; with_reducible rfl) | (go_simp; rfl)) rfl⟩⟩
        · have h3 := h
          have e3 : γ 3 = .int .u8 g := h3
          refine ⟨_, rfl, Or.inl ⟨rfl, predRun_value (v := .int .i64 g) (by simp only [putE, e3]; go_simp; exact IntWalk.i64_in _ (by omega)) rfl⟩⟩
        · refine ⟨_, rfl, Or.inl ⟨rfl, predRun_value (v := .int .i64 k) (by simp only [putE]; first | rfl | (go_simp; done) | (go_simp; with_reducible rfl) | (go_simp; rfl)) rfl⟩⟩
        · have h5 := h
          have e5 : γ 5 = .int .i64 k := h5
          refine ⟨_, rfl, Or.inl ⟨rfl, predRun_value (v := .pointer (some ⟨A + 2, k * 16, none⟩)) (by simp only [putE, e5]; go_simp) rfl⟩⟩
        · have h6 := h
          have e6 : γ 6 = .pointer (some ⟨A + 2, k * 16, none⟩) := h6
          refine ⟨_, rfl, Or.inl ⟨rfl, predRun_value (v := dgV z) (exec_load_mid (cs := kv .u8 z) rfl (by simp only [putE, e6]; rfl) (by rw [HZ.out]; exact hS.2.1.mid (by rw [HYl.out]; omega)) Tryd.underlying27 rfl (cellsL27 HZl.out)) rfl⟩⟩
        · obtain ⟨h1, h2, h4, h7⟩ := h
          have e1 : γ 1 = nameV d x := h1
          have e2 : γ 2 = .int .i64 k := h2
          have e4 : γ 4 = .int .i64 g := h4
          have e7 : γ 7 = dgV z := h7
          refine ⟨_, rfl, Or.inl ⟨rfl, predRun_call (f := 47) (args := #[nameV d x, .int .i64 k, .int .i64 g, .int .i64 3, dgV z]) (by simp only [putE, e1, e2, e4, e7]; go_simp) ?_⟩⟩
          exact (along_any d x k g 3 z wx (HK.out.keep (by rw [← HA.out]; exact hS.2.2.2)) HX.out (by omega) HZl.out HZb.out).mono fun e w2 ⟨h1, h2⟩ => ⟨_, h1, (show dgV (runS d x k g z (3 - g)) = dgV u by rw [HU.out]), h2⟩
        · have e0 : γ 0 = .int .i64 k := h.1
          clear h
          refine ⟨_, rfl, ?_⟩
          refine predOp_val (v := .pointer (some ⟨A + 2, k * 16, none⟩)) ?_ ?_ ?_
          · kernel_rfl
          · simp only [putE, e0]
            go_simp
          · rfl
      · intro γ w9 hS h
        have h8 : γ 8 = dgV u := h.2.2.2.2.2.2.2.2.1
        have h9 : γ 9 = .pointer (some ⟨A + 2, k * 16, none⟩) := h.2.2.2.2.2.2.2.2.2
        simp only [putE, Act.put, List.setIfInBounds_toArray, List.set_cons_zero, List.set_cons_succ]
        rw [h8, h9]
        have E1 : Kp (Blk (w9.setCells (A + 2) (k * 16) (kv .u8 u)) A (.cells #[.int .i64 d, .int .u32 x] 29)) := ⟨Blk.otherCells (by omega) _ _ _ hS.1⟩
        have E2 : Kp (Row (w9.setCells (A + 2) (k * 16) (kv .u8 u)) (A + 2) 41 .u8 (splice y (k * 16) u)) := ⟨Row.setCells u (k * 16) w9 y (by rw [HYl.out, HUl.out]; omega) hS.2.1⟩
        have E3 : Kp (Row (w9.setCells (A + 2) (k * 16) (kv .u8 u)) (A + 3) 27 .u8 (fill 16 [])) := ⟨Row.otherCells (by omega) _ _ _ hS.2.2.1⟩
        have E4 : Kp (Below A w (w9.setCells (A + 2) (k * 16) (kv .u8 u))) := ⟨Below.cells (by omega) _ _ _ _ hS.2.2.2⟩
        have HTH := Kp.mk (hS.2.1.there (o := k * 16) (n := 16) (by rw [HYl.out]; omega))
        clear h hS h8 h9 F1 F2 F3 F4
        refine wpOps_step rfl rfl ?_
        refine wp_store_mid 27 (.tmp 24) (.tmp 23) rfl (A + 2) (k * 16) (kv .u8 u).toArray ?hx ?hy ?ht (cells50 HUl.out) (kv_all _ _) ?_
        case hx => go_simp
        case hy => go_simp
        case ht => rw [kv_size, HUl.out]; exact HTH.out
        refine wpOps_done ?_
        obtain ⟨W9, hW9⟩ : ∃ W9, W9 = w9.setCells (A + 2) (k * 16) (kv .u8 u) := ⟨_, rfl⟩
        rw [← hW9] at E1 E2 E3 E4
        show _
        simp only [List.toList_toArray] at *
        rw [← hW9]
        clear hW9 HTH
        go_wp2_with fail
        exact ⟨⟨k + 1, by omega, by go_num, E1, ⟨by rw [HYn.out]; exact E2.out⟩, E3, E4⟩, by simp [intOf]; omega⟩
    · obtain rfl : k = 68 := by omega
      have hge : ¬ ((68 : Nat) : Int) < 68 := by omega
      clear HOK
      generalize recL d x m S 68 = y at *
      have HYl : Kp (y.length = 1088) := ⟨HYk.out.1⟩
      have HYb : Kp (Bytes y) := ⟨HYk.out.2⟩
      go_wp2_with (first
        | (refine wpList_load_row rfl 29 (.tmp 3) rfl A rfl 29 _ (0, 0) _ F1.out Tryd.underlying29 rfl (cellsN29 d x) ?_)
        | (refine wpList_load_row rfl 41 (.tmp 5) rfl (A + 2) rfl 41 (kv .u8 y).toArray (0, 0) _ F2.out Tryd.underlying41 rfl (cells41 HYl.out) ?_))
      refine (whole_any d x y wr (HK.out.keep (by rw [← HA.out]; exact F4.out)) HX.out HYl.out HYb.out).mono ?_
      rintro q w3 ⟨rfl, hb⟩
      have K3 := Kp.mk (F3.out.keep hb)
      have K4 : Kp (Below A w w3) := ⟨F4.out.trans (hb.mono (by have := F3.out.lt; omega))⟩
      rw [← HQ.out]
      clear hb F1 F2 F3 F4
      have HCq := Kp.mk (cells50 HQl.out)
      have KR := Kp.mk (K3.out.setRow q0)
      have KB := Kp.mk (Below.row K4.out (g := A + 3) (by omega) (kv .u8 q0).toArray)
      go_wp2_with (refine wpList_store_row rfl 27 (.tmp 6) (.tmp 28) rfl (A + 3) (kv .u8 q0).toArray rfl rfl 27 _ K3.out HCq.out (size50 HQl.out) (kv_all _ _) ?_)
      refine bodyPost_ret (v := dgV q0) ?_ rfl ⟨rfl, by rw [← HA.out]; exact KB.out⟩
      exact results_cell_row rfl _ _ (A + 3) 27 _ (0, 0) _ rfl KR.out Tryd.underlying27 rfl HCq.out
end Go.Proofs.YtpljjmdkagbjpaaDoor

namespace Go.Proofs.YtpljjmdkagbjpaaDoor
open Go.RowKit

set_option maxRecDepth 100000 in
set_option maxHeartbeats 8000000 in
theorem public_any (s : List Int) (d x : Int) (w : World) (hk : KonIs w) (hx : 0 ≤ x ∧ x < 4294967296) (hs : s.length = 32) (hsb : Bytes s) :
    Calls Tryd.prog 13 #[.agg (kv .u8 s).toArray, nameV d x] w fun q w' => q = .returned (dgV (shortL (wholeT d x (topS s d x)))) ∧ Below w.heap.size w w' := by
  have HK := Kp.mk hk
  have HX := Kp.mk hx
  have HS := Kp.mk (And.intro hs hsb)
  have hC := fun (w : World) => box_row (t := 95) (cs := kv .u8 s) (cellsS95 hs) w
  obtain ⟨q0, hq⟩ : ∃ q, q = shortL (wholeT d x (topS s d x)) := ⟨_, rfl⟩
  rw [← hq]
  have HQ := Kp.mk hq
  have HQl : Kp (q0.length = 16) := ⟨by rw [hq]; exact shortL_len _⟩
  obtain ⟨G, hG⟩ : ∃ G : Nat → List Int, G = fun c => ownS s d x c 3 := ⟨_, rfl⟩
  have HG := Kp.mk hG
  have HGl : Kp (∀ c, (G c).length = 16) := ⟨by rw [hG]; exact fun c => ownS_len _ _ _ _ _⟩
  clear hk hx hs hsb hq hG
  go_enter Tryd.func13, Tryd.ntmps13
  go_wp2_with (first
    | (refine wpList_box_eq rfl 95 (.tmp 0) rfl _ rfl _ _ (hC _) ?_)
    | (refine wpList_alloc_row rfl 41 rfl _ _ infoz41 ?_))
  obtain ⟨A, hA⟩ : ∃ A, A = w.heap.size := ⟨_, rfl⟩
  have HA := Kp.mk hA
  rw [← hA]
  refine wp_world (fun W => Row W A 95 .u8 s ∧ Blk W (A + 1) (.cells #[.int .i64 d, .int .u32 x] 29) ∧ Row W (A + 2) 27 .u8 (fill 16 []) ∧ Row W (A + 3) 41 .u8 (List.replicate 1088 0) ∧ Below A w W) ⟨?_, ?_, ?_, ?_, ?_⟩ ?_
  · exact Blk.old (Blk.old (Blk.old (Blk.newAt _ hA) _) _) _
  · exact Blk.old (Blk.old (Blk.newAt _ (by simp [hA])) _) _
  · exact Blk.old (Blk.newAt _ (by simp [hA])) _
  · exact Blk.newAt _ (by simp [hA])
  · rw [hA]; exact more (more (more (more (Below.refl _ _) _) _) _) _
  rw [show A + 1 + 1 + 1 = A + 3 from rfl, show A + 1 + 1 = A + 2 from rfl]
  clear hA hC
  rintro W ⟨h1, h2, h3, h5, h4⟩
  have G1 := Kp.mk h1
  have G2 := Kp.mk h2
  have G3 := Kp.mk h3
  have G5 := Kp.mk h5
  have G4 := Kp.mk h4
  clear h1 h2 h3 h4 h5
  go_loopw [6, 7] (fun _ c wr => ∃ k : Nat, k ≤ 68 ∧ c = .int .i64 k ∧ Kp (Row wr A 95 .u8 s) ∧ Kp (Blk wr (A + 1) (.cells #[.int .i64 d, .int .u32 x] 29)) ∧ Kp (Row wr (A + 2) 27 .u8 (fill 16 [])) ∧ Kp (Row wr (A + 3) 41 .u8 (padS G k)) ∧ Kp (Below A w wr)) (fun _ c _ => 68 - (intOf c).toNat)
  case atStart => exact ⟨0, by omega, rfl, G1, G2, G3, ⟨by rw [padS_none]; exact G5.out⟩, G4⟩
  case round =>
    obtain ⟨k, hk, rfl, F1, F2, F3, F5, F4⟩ := hrel
    clear G1 G2 G3 G4 G5
    by_cases hlt : k < 68
    · have hlt' : (k : Int) < 68 := by omega
      have HYl := Kp.mk (padS_len HGl.out hk)
      have HYn := Kp.mk (padS_step HGl.out hlt)
      generalize padS G k = y at *
      obtain ⟨u, hu⟩ : ∃ u, u = G k := ⟨_, rfl⟩
      rw [← hu] at HYn
      have HUl : Kp (u.length = 16) := ⟨by rw [hu]; exact HGl.out k⟩
      obtain ⟨z, hz⟩ : ∃ z, z = ownS s d x k 0 := ⟨_, rfl⟩
      have HZ := Kp.mk hz
      have HZl : Kp (z.length = 16) := ⟨by rw [hz]; exact ownS_len _ _ _ _ _⟩
      have HZb : Kp (Bytes z) := ⟨by rw [hz]; exact ownS_bytes _ _ _ _ _⟩
      have HU : Kp (u = runS d x k 0 z 3) := ⟨by rw [hu, hz, HG.out]; rfl⟩
      clear hu hz
      go_wp2_with fail
      refine wp_region_pred (fun w' => Row w' A 95 .u8 s ∧ Blk w' (A + 1) (.cells #[.int .i64 d, .int .u32 x] 29) ∧ Row w' (A + 2) 27 .u8 (fill 16 []) ∧ Row w' (A + 3) 41 .u8 y ∧ Below A w w') [0, 1, 2, 3, 4, 5, 6, 7, 8] [9]
        (fun ι w' v => match ι with
          | 0 | 2 | 5 => v = .int .i64 k
          | 1 | 4 => v = nameV d x
          | 3 => v = .agg (kv .u8 s).toArray
          | 6 => v = dgV z
          | 7 => v = dgV u
          | 8 => v = .pointer (some ⟨A + 3, k * 16, none⟩)
          | _ => v = .bool true)
        [[], [], [], [], [], [], [(3, some 13), (4, some 14), (5, some 15)], [(1, some 11), (2, some 12), (6, some 16)], [(0, some 10), (1, some 11), (2, some 12), (3, some 13), (4, some 14), (5, some 15), (6, some 16), (7, some 17)]]
        [(0, some 10), (1, some 11), (2, some 12), (3, some 13), (4, some 14), (5, some 15), (6, some 16), (7, some 17), (8, some 18)]
        (by kernel_rfl) (by kernel_rfl) (by kernel_rfl) (by kernel_rfl) (by kernel_rfl) (by kernel_rfl) (by decide) (by decide) (fun w1 w2 h hb => ⟨h.1.keep hb, h.2.1.keep hb, h.2.2.1.keep hb, h.2.2.2.1.keep hb, h.2.2.2.2.trans (hb.mono (Nat.le_of_lt h.1.lt))⟩) ?_ ⟨F1.out.drew, F2.out.draw, F3.out.drew, F5.out.drew, F4.out.drew⟩ ?_ ?_
      · intro ι w1 w2 v h hb
        match ι, h with
        | 0, h => exact h
        | 1, h => exact h
        | 2, h => exact h
        | 3, h => exact h
        | 4, h => exact h
        | 5, h => exact h
        | 6, h => exact h
        | 7, h => exact h
        | 8, h => exact h
        | _ + 9, h => exact h
      · refine ⟨fun γ wx hS h => ?_, fun γ wx hS h => ?_, fun γ wx hS h => ?_, fun γ wx hS h => ?_, fun γ wx hS h => ?_, fun γ wx hS h => ?_, fun γ wx hS h => ?_, fun γ wx hS h => ?_, fun γ wx hS h => ?_, trivial⟩
        · refine ⟨_, rfl, Or.inl ⟨rfl, predRun_value (v := .int .i64 k) (by simp only [putE]; first | rfl | (go_simp; done) | (go_simp; with_reducible rfl) | (go_simp; rfl)) rfl⟩⟩
        · refine ⟨_, rfl, Or.inl ⟨rfl, predRun_value (exec_load_blk 29 (.tmp 3) rfl (A + 1) rfl 29 _ (0, 0) _ hS.2.1 Tryd.underlying29 rfl (cellsN29 d x)) rfl⟩⟩
        · refine ⟨_, rfl, Or.inl ⟨rfl, predRun_value (v := .int .i64 k) (by simp only [putE]; first | rfl | (go_simp; done) | (go_simp; with_reducible rfl) | (go_simp; rfl)) rfl⟩⟩
        · refine ⟨_, rfl, Or.inl ⟨rfl, predRun_value (exec_load_blk 95 (.tmp 2) rfl (A) rfl 95 _ (0, 0) _ hS.1 Tryd.underlying95 rfl (cellsS95 HS.out.1)) rfl⟩⟩
        · refine ⟨_, rfl, Or.inl ⟨rfl, predRun_value (exec_load_blk 29 (.tmp 3) rfl (A + 1) rfl 29 _ (0, 0) _ hS.2.1 Tryd.underlying29 rfl (cellsN29 d x)) rfl⟩⟩
        · refine ⟨_, rfl, Or.inl ⟨rfl, predRun_value (v := .int .i64 k) (by simp only [putE]; first | rfl | (go_simp; done) | (go_simp; with_reducible rfl) | (go_simp; rfl)) rfl⟩⟩
        · obtain ⟨h3, h4, h5⟩ := h
          have e3 : γ 3 = .agg (kv .u8 s).toArray := h3
          have e4 : γ 4 = nameV d x := h4
          have e5 : γ 5 = .int .i64 k := h5
          refine ⟨_, rfl, Or.inl ⟨rfl, predRun_call (f := 48) (args := #[.agg (kv .u8 s).toArray, nameV d x, .int .i64 k]) (by simp only [putE, e3, e4, e5]; go_simp) ?_⟩⟩
          exact (ofirst_any s d x k wx (HK.out.keep (by rw [← HA.out]; exact hS.2.2.2.2)) HX.out HS.out.1 HS.out.2 hlt).mono fun e w2 ⟨h1, h2⟩ => ⟨_, h1, (show dgV (ownS s d x k 0) = dgV z by rw [HZ.out]), h2⟩
        · obtain ⟨h1, h2, h6⟩ := h
          have e1 : γ 1 = nameV d x := h1
          have e2 : γ 2 = .int .i64 k := h2
          have e6 : γ 6 = dgV z := h6
          refine ⟨_, rfl, Or.inl ⟨rfl, predRun_call (f := 47) (args := #[nameV d x, .int .i64 k, .int .i64 0, .int .i64 3, dgV z]) (by simp only [putE, e1, e2, e6]; go_simp) ?_⟩⟩
          exact (along_any d x k 0 3 z wx (HK.out.keep (by rw [← HA.out]; exact hS.2.2.2.2)) HX.out (by omega) HZl.out HZb.out).mono fun e w2 ⟨h1, h2⟩ => ⟨_, h1, (show dgV (runS d x k 0 z (3 - 0)) = dgV u by first | (rw [HU.out]; done) | rw [HU.out, Nat.sub_zero]), h2⟩
        · obtain ⟨h0, h1, h2, h3, h4, h5, h6, h7⟩ := h
          have e0 : γ 0 = .int .i64 k := h0
          have e1 : γ 1 = nameV d x := h1
          have e2 : γ 2 = .int .i64 k := h2
          have e3 : γ 3 = .agg (kv .u8 s).toArray := h3
          have e4 : γ 4 = nameV d x := h4
          have e5 : γ 5 = .int .i64 k := h5
          have e6 : γ 6 = dgV z := h6
          have e7 : γ 7 = dgV u := h7
          refine ⟨_, rfl, ?_⟩
          refine predOp_val (v := .pointer (some ⟨A + 3, k * 16, none⟩)) ?_ ?_ ?_
          · kernel_rfl
          · simp only [putE, e0, e1, e2, e3, e4, e5, e6, e7]
            go_simp
          · rfl
      · intro γ w9 hS h
        have hu : γ 7 = dgV u := h.2.2.2.2.2.2.2.1
        have hp : γ 8 = .pointer (some ⟨A + 3, k * 16, none⟩) := h.2.2.2.2.2.2.2.2
        simp only [putE, Act.put, List.setIfInBounds_toArray, List.set_cons_zero, List.set_cons_succ]
        rw [hu, hp]
        have HTHR := Kp.mk (hS.2.2.2.1.there (o := k * 16) (n := 16) (by rw [HYl.out]; omega))
        obtain ⟨V, hV⟩ : ∃ V, V = w9.setCells (A + 3) (k * 16) (kv .u8 u) := ⟨_, rfl⟩
        have D1 : Kp (Row V A 95 .u8 s) := ⟨by rw [hV]; exact Row.otherCells (by omega) _ _ _ hS.1⟩
        have D2 : Kp (Blk V (A + 1) (.cells #[.int .i64 d, .int .u32 x] 29)) := ⟨by rw [hV]; exact Blk.otherCells (by omega) _ _ _ hS.2.1⟩
        have D3 : Kp (Row V (A + 2) 27 .u8 (fill 16 [])) := ⟨by rw [hV]; exact Row.otherCells (by omega) _ _ _ hS.2.2.1⟩
        have D5 : Kp (Row V (A + 3) 41 .u8 (padS G (k + 1))) := ⟨by rw [hV, ← HYn.out]; exact Row.setCells u (k * 16) w9 y (by rw [HYl.out, HUl.out]; omega) hS.2.2.2.1⟩
        have D4 : Kp (Below A w V) := ⟨by rw [hV]; exact Below.cells (by omega) _ _ _ _ hS.2.2.2.2⟩
        have HV := Kp.mk hV
        clear h hS hu hp F1 F2 F3 F4 F5 hV
        refine wpOps_step rfl rfl ?_
        refine wp_store_mid 27 (.tmp 18) (.tmp 17) rfl (A + 3) (k * 16) (kv .u8 u).toArray ?hx ?hy ?ht (cells50 HUl.out) (kv_all _ _) ?_
        case hx => go_simp
        case hy => go_simp
        case ht => rw [kv_size, HUl.out]; exact HTHR.out
        refine wpOps_done ?_
        show _
        simp only [List.toList_toArray] at *
        rw [← HV.out]
        clear HV HTHR
        go_wp2_with fail
        exact ⟨⟨k + 1, by omega, by go_num, D1, D2, D3, D5, D4⟩, by simp [intOf]; omega⟩
    · obtain rfl : k = 68 := by omega
      have hge : ¬ ((68 : Nat) : Int) < 68 := by omega
      have K5 : Kp (Row wr (A + 3) 41 .u8 (topS s d x)) := ⟨by have h := F5.out; rw [padS_all, HG.out] at h; exact h⟩
      have HT := Kp.mk (And.intro (topS_len s d x) (topS_bytes s d x))
      clear F5
      generalize topS s d x = y at *
      go_wp2_with (first
        | (refine wpList_load_row rfl 29 (.tmp 3) rfl (A + 1) rfl 29 _ (0, 0) _ F2.out Tryd.underlying29 rfl (cellsN29 d x) ?_)
        | (refine wpList_load_row rfl 41 (.tmp 5) rfl (A + 3) rfl 41 (kv .u8 y).toArray (0, 0) _ K5.out Tryd.underlying41 rfl (cells41 HT.out.1) ?_))
      refine (whole_any d x y wr (HK.out.keep (by rw [← HA.out]; exact F4.out)) HX.out HT.out.1 HT.out.2).mono ?_
      rintro q w3 ⟨rfl, hb⟩
      have K3 := Kp.mk (F3.out.keep hb)
      have K4 : Kp (Below A w w3) := ⟨F4.out.trans (hb.mono (by have := F3.out.lt; omega))⟩
      rw [← HQ.out]
      clear hb F1 F2 F3 F4
      have HCq := Kp.mk (cells50 HQl.out)
      have KR := Kp.mk (K3.out.setRow q0)
      have KB := Kp.mk (Below.row K4.out (g := A + 2) (by omega) (kv .u8 q0).toArray)
      go_wp2_with (refine wpList_store_row rfl 27 (.tmp 4) (.tmp 22) rfl (A + 2) (kv .u8 q0).toArray rfl rfl 27 _ K3.out HCq.out (size50 HQl.out) (kv_all _ _) ?_)
      refine bodyPost_ret (v := dgV q0) ?_ rfl ⟨rfl, by rw [← HA.out]; exact KB.out⟩
      exact results_cell_row rfl _ _ (A + 2) 27 _ (0, 0) _ rfl KR.out Tryd.underlying27 rfl HCq.out
set_option maxRecDepth 100000 in
set_option maxHeartbeats 8000000 in
theorem sign_any (s : List Int) (d x : Int) (m : List Int) (w : World) (hk : KonIs w) (hx : 0 ≤ x ∧ x < 4294967296) (hs : s.length = 32) (hsb : Bytes s) (hm : m.length = 16) (hmb : Bytes m) :
    Calls Tryd.prog 15 #[.agg (kv .u8 s).toArray, nameV d x, dgV m] w fun q w' => q = .returned (.agg (kv .u8 (signS s d x m)).toArray) ∧ Below w.heap.size w w' := by
  have HK := Kp.mk hk
  have HX := Kp.mk hx
  have HS := Kp.mk (And.intro hs hsb)
  have HM := Kp.mk (And.intro hm hmb)
  have hC := fun (w : World) => box_row (t := 95) (cs := kv .u8 s) (cellsS95 hs) w
  have hC2 := fun (w : World) => box_row (t := 27) (cs := kv .u8 m) (cells50 hm) w
  have HCm := Kp.mk (cells50 hm)
  obtain ⟨G, hG⟩ : ∃ G : Nat → List Int, G = fun c => ownS s d x c (dgt m c) := ⟨_, rfl⟩
  have HG := Kp.mk hG
  have HGl : Kp (∀ c, (G c).length = 16) := ⟨by rw [hG]; exact fun c => ownS_len _ _ _ _ _⟩
  clear hk hx hs hsb hm hmb hG
  obtain ⟨A, hA⟩ : ∃ A, A = w.heap.size := ⟨_, rfl⟩
  have HA := Kp.mk hA
  clear hA
  go_enter Tryd.func15, Tryd.ntmps15
  go_wp2_with (first
    | (refine wpList_box_eq rfl 95 (.tmp 0) rfl _ rfl _ _ (hC _) ?_)
    | (refine wpList_box_eq rfl 27 (.tmp 2) rfl _ rfl _ _ (hC2 _) ?_)
    | (refine wpList_alloc_row (o := ⟨some 6, _, _, _, _, _⟩) rfl 41 rfl _ _ infoz41 ?_; rw [show (((w.alloc (.cells (kv .u8 s).toArray 95)).alloc (.cells #[.int .i64 d, .int .u32 x] 29)).alloc (.cells (kv .u8 m).toArray 27)).heap.size = A + 3 by simp [HA.out], show ((w.alloc (.cells (kv .u8 s).toArray 95)).alloc (.cells #[.int .i64 d, .int .u32 x] 29)).heap.size = A + 2 by simp [HA.out], ← HA.out]; refine wpl_world (fun W => Row W A 95 .u8 s ∧ Blk W (A + 1) (.cells #[.int .i64 d, .int .u32 x] 29) ∧ Row W (A + 2) 27 .u8 m ∧ Row W (A + 3) 41 .u8 (List.replicate 1088 0) ∧ Below A w W ∧ W.heap.size = A + 4) ⟨Blk.old (Blk.old (Blk.old (Blk.newAt _ HA.out) _) _) _, Blk.old (Blk.old (Blk.newAt _ (by simp [HA.out])) _) _, Blk.old (Blk.newAt _ (by simp [HA.out])) _, Blk.newAt _ (by simp [HA.out]), by rw [HA.out]; exact more (more (more (more (Below.refl _ _) _) _) _) _, by simp [HA.out]⟩ ?_; rintro W1 ⟨h1, h2, h3, h4, h5, h6⟩; have J1 := Kp.mk h1; have J2 := Kp.mk h2; have J3 := Kp.mk h3; have J4 := Kp.mk h4; have J5 := Kp.mk h5; have J6 := Kp.mk h6; clear h1 h2 h3 h4 h5 h6)
    | (refine wpList_alloc_row (o := ⟨some 7, _, _, _, _, _⟩) rfl 41 rfl _ _ infoz41 ?_; rw [J6.out]; refine wpl_world (fun W => Row W A 95 .u8 s ∧ Blk W (A + 1) (.cells #[.int .i64 d, .int .u32 x] 29) ∧ Row W (A + 2) 27 .u8 m ∧ Row W (A + 3) 41 .u8 (List.replicate 1088 0) ∧ Row W (A + 4) 41 .u8 (List.replicate 1088 0) ∧ Below A w W) ⟨J1.out.alloc _, J2.out.old _, J3.out.alloc _, J4.out.alloc _, Blk.newAt _ J6.out.symm, J5.out.alloc (by have := J6.out; omega) _⟩ ?_; rintro W2 ⟨h1, h2, h3, h4, h5, h6⟩; have I1 := Kp.mk h1; have I2 := Kp.mk h2; have I3 := Kp.mk h3; have I4 := Kp.mk h4; have I5 := Kp.mk h5; have I6 := Kp.mk h6; clear h1 h2 h3 h4 h5 h6 J1 J2 J3 J4 J5 J6)
    | (refine wpList_load_row rfl 27 (.tmp 5) rfl (A + 2) rfl 27 (kv .u8 m).toArray (0, 0) _ I3.out Tryd.underlying27 rfl HCm.out ?_))
  refine calls_world (fun W => Row W A 95 .u8 s ∧ Blk W (A + 1) (.cells #[.int .i64 d, .int .u32 x] 29) ∧ Row W (A + 3) 41 .u8 (List.replicate 1088 0) ∧ Row W (A + 4) 41 .u8 (List.replicate 1088 0) ∧ Below A w W) ⟨I1.out, I2.out, I4.out, I5.out, I6.out⟩ ?_
  clear hC hC2 I1 I2 I3 I4 I5 I6
  rintro W ⟨h1, h2, h3, h5, h4⟩
  refine (digits_any m W HM.out.1 HM.out.2).mono ?_
  rintro r w1 ⟨rfl, hb⟩
  have G1 := Kp.mk (h1.keep hb)
  have G2 := Kp.mk (Blk.keep h2 hb)
  have G3 := Kp.mk (h3.keep hb)
  have G5 := Kp.mk (h5.keep hb)
  have G4 : Kp (Below A w w1) := ⟨h4.trans (hb.mono (Nat.le_of_lt h1.lt))⟩
  have HD : Kp (∀ c, c < 68 → (digS m).getD c 0 = digA m c) := ⟨fun c hc => digS_at m hc⟩
  have HDl : Kp ((digS m).length = 68) := ⟨digS_len m⟩
  generalize digS m = dl at *
  clear h1 h2 h3 h4 h5 hb
  go_wp2_with fail
  go_loopw [8, 9, 12] (fun _ _ c wr => ∃ k : Nat, k ≤ 68 ∧ c = .int .i64 k ∧ Kp (Row wr A 95 .u8 s) ∧ Kp (Blk wr (A + 1) (.cells #[.int .i64 d, .int .u32 x] 29)) ∧ Kp (Row wr (A + 3) 41 .u8 (List.replicate 1088 0)) ∧ Kp (Row wr (A + 4) 41 .u8 (padS G k)) ∧ Kp (Below A w wr)) (fun _ _ c _ => 68 - (intOf c).toNat)
  case atStart => exact ⟨0, by omega, rfl, G1, G2, G3, ⟨by rw [padS_none]; exact G5.out⟩, G4⟩
  case round =>
    obtain ⟨k, hk, rfl, F1, F2, F3, F5, F4⟩ := hrel
    clear G1 G2 G3 G4 G5
    by_cases hlt : k < 68
    · have hlt' : (k : Int) < 68 := by omega
      have hdk := HD.out k hlt
      have HYl := Kp.mk (padS_len HGl.out hk)
      have HYn := Kp.mk (padS_step HGl.out hlt)
      generalize padS G k = y at *
      obtain ⟨u, hu⟩ : ∃ u, u = G k := ⟨_, rfl⟩
      rw [← hu] at HYn
      have HUl : Kp (u.length = 16) := ⟨by rw [hu]; exact HGl.out k⟩
      obtain ⟨z, hz⟩ : ∃ z, z = ownS s d x k 0 := ⟨_, rfl⟩
      have HZ := Kp.mk hz
      have HZl : Kp (z.length = 16) := ⟨by rw [hz]; exact ownS_len _ _ _ _ _⟩
      have HZb : Kp (Bytes z) := ⟨by rw [hz]; exact ownS_bytes _ _ _ _ _⟩
      obtain ⟨hg1, hg2⟩ := dgt_is m k
      have HU : Kp (u = runS d x k 0 z (dgt m k)) := ⟨by rw [hu, hz, HG.out]; rfl⟩
      rw [← hg1] at hdk
      generalize dgt m k = g at *
      clear hu hz hg1
      have hix : ∀ w : World, (Instr.index 51 (.agg (kv .u8 dl).toArray) (.int .i64 (k : Int))).run Tryd.prog w = .ok (.int .u8 (g : Int)) w := fun w => by
        rw [← hdk]
        exact index_arr51 dl k HDl.out hlt w
      clear hdk
      go_wp2_with fail
      refine wp_region_pred (fun w' => Row w' A 95 .u8 s ∧ Blk w' (A + 1) (.cells #[.int .i64 d, .int .u32 x] 29) ∧ Row w' (A + 3) 41 .u8 (List.replicate 1088 0) ∧ Row w' (A + 4) 41 .u8 y ∧ Below A w w') [0, 1, 2, 3, 4, 5, 6, 7, 8, 9, 10] [11]
        (fun ι w' v => match ι with
          | 0 | 2 | 7 => v = .int .i64 k
          | 1 | 6 => v = nameV d x
          | 3 => v = .int .u8 g
          | 4 => v = .int .i64 g
          | 5 => v = .agg (kv .u8 s).toArray
          | 8 => v = dgV z
          | 9 => v = dgV u
          | 10 => v = .pointer (some ⟨A + 4, k * 16, none⟩)
          | _ => v = .bool true)
        [[], [], [], [], [(3, some 19)], [], [], [], [(5, some 21), (6, some 22), (7, some 23)], [(1, some 17), (2, some 18), (4, some 20), (8, some 24)], [(0, some 16), (1, some 17), (2, some 18), (3, some 19), (4, some 20), (5, some 21), (6, some 22), (7, some 23), (8, some 24), (9, some 25)]]
        [(0, some 16), (1, some 17), (2, some 18), (3, some 19), (4, some 20), (5, some 21), (6, some 22), (7, some 23), (8, some 24), (9, some 25), (10, some 26)]
        (by kernel_rfl) (by kernel_rfl) (by kernel_rfl) (by kernel_rfl) (by kernel_rfl) (by kernel_rfl) (by decide) (by decide) (fun w1 w2 h hb => ⟨h.1.keep hb, h.2.1.keep hb, h.2.2.1.keep hb, h.2.2.2.1.keep hb, h.2.2.2.2.trans (hb.mono (Nat.le_of_lt h.1.lt))⟩) ?_ ⟨F1.out.drew, F2.out.draw, F3.out.drew, F5.out.drew, F4.out.drew⟩ ?_ ?_
      · intro ι w1 w2 v h hb
        match ι, h with
        | 0, h => exact h
        | 1, h => exact h
        | 2, h => exact h
        | 3, h => exact h
        | 4, h => exact h
        | 5, h => exact h
        | 6, h => exact h
        | 7, h => exact h
        | 8, h => exact h
        | 9, h => exact h
        | 10, h => exact h
        | _ + 11, h => exact h
      · refine ⟨fun γ wx hS h => ?_, fun γ wx hS h => ?_, fun γ wx hS h => ?_, fun γ wx hS h => ?_, fun γ wx hS h => ?_, fun γ wx hS h => ?_, fun γ wx hS h => ?_, fun γ wx hS h => ?_, fun γ wx hS h => ?_, fun γ wx hS h => ?_, fun γ wx hS h => ?_, trivial⟩
        · refine ⟨_, rfl, Or.inl ⟨rfl, predRun_value (v := .int .i64 k) (by simp only [putE]; first | rfl | (go_simp; done) | (go_simp; with_reducible rfl) | (go_simp; rfl)) rfl⟩⟩
        · refine ⟨_, rfl, Or.inl ⟨rfl, predRun_value (exec_load_blk 29 (.tmp 4) rfl (A + 1) rfl 29 _ (0, 0) _ hS.2.1 Tryd.underlying29 rfl (cellsN29 d x)) rfl⟩⟩
        · refine ⟨_, rfl, Or.inl ⟨rfl, predRun_value (v := .int .i64 k) (by simp only [putE]; first | rfl | (go_simp; done) | (go_simp; with_reducible rfl) | (go_simp; rfl)) rfl⟩⟩
        · refine ⟨_, rfl, Or.inl ⟨rfl, predRun_value (v := .int .u8 g) (by simp only [putE]; first | rfl | (go_simp; done) | (go_simp; with_reducible rfl) | (go_simp; rfl)) rfl⟩⟩
        · have h3 := h
          have e3 : γ 3 = .int .u8 g := h3
          refine ⟨_, rfl, Or.inl ⟨rfl, predRun_value (v := .int .i64 g) (by simp only [putE, e3]; go_simp; exact IntWalk.i64_in _ (by omega)) rfl⟩⟩
        · refine ⟨_, rfl, Or.inl ⟨rfl, predRun_value (exec_load_blk 95 (.tmp 3) rfl (A) rfl 95 _ (0, 0) _ hS.1 Tryd.underlying95 rfl (cellsS95 HS.out.1)) rfl⟩⟩
        · refine ⟨_, rfl, Or.inl ⟨rfl, predRun_value (exec_load_blk 29 (.tmp 4) rfl (A + 1) rfl 29 _ (0, 0) _ hS.2.1 Tryd.underlying29 rfl (cellsN29 d x)) rfl⟩⟩
        · refine ⟨_, rfl, Or.inl ⟨rfl, predRun_value (v := .int .i64 k) (by simp only [putE]; first | rfl | (go_simp; done) | (go_simp; with_reducible rfl) | (go_simp; rfl)) rfl⟩⟩
        · obtain ⟨h5, h6, h7⟩ := h
          have e5 : γ 5 = .agg (kv .u8 s).toArray := h5
          have e6 : γ 6 = nameV d x := h6
          have e7 : γ 7 = .int .i64 k := h7
          refine ⟨_, rfl, Or.inl ⟨rfl, predRun_call (f := 48) (args := #[.agg (kv .u8 s).toArray, nameV d x, .int .i64 k]) (by simp only [putE, e5, e6, e7]; go_simp) ?_⟩⟩
          exact (ofirst_any s d x k wx (HK.out.keep (by rw [← HA.out]; exact hS.2.2.2.2)) HX.out HS.out.1 HS.out.2 hlt).mono fun e w2 ⟨h1, h2⟩ => ⟨_, h1, (show dgV (ownS s d x k 0) = dgV z by rw [HZ.out]), h2⟩
        · obtain ⟨h1, h2, h4, h8⟩ := h
          have e1 : γ 1 = nameV d x := h1
          have e2 : γ 2 = .int .i64 k := h2
          have e4 : γ 4 = .int .i64 g := h4
          have e8 : γ 8 = dgV z := h8
          refine ⟨_, rfl, Or.inl ⟨rfl, predRun_call (f := 47) (args := #[nameV d x, .int .i64 k, .int .i64 0, .int .i64 g, dgV z]) (by simp only [putE, e1, e2, e4, e8]; go_simp) ?_⟩⟩
          exact (along_any d x k 0 g z wx (HK.out.keep (by rw [← HA.out]; exact hS.2.2.2.2)) HX.out (by omega) HZl.out HZb.out).mono fun e w2 ⟨h1, h2⟩ => ⟨_, h1, (show dgV (runS d x k 0 z (g - 0)) = dgV u by first | (rw [HU.out]; done) | rw [HU.out, Nat.sub_zero]), h2⟩
        · obtain ⟨h0, h1, h2, h3, h4, h5, h6, h7, h8, h9⟩ := h
          have e0 : γ 0 = .int .i64 k := h0
          have e1 : γ 1 = nameV d x := h1
          have e2 : γ 2 = .int .i64 k := h2
          have e3 : γ 3 = .int .u8 g := h3
          have e4 : γ 4 = .int .i64 g := h4
          have e5 : γ 5 = .agg (kv .u8 s).toArray := h5
          have e6 : γ 6 = nameV d x := h6
          have e7 : γ 7 = .int .i64 k := h7
          have e8 : γ 8 = dgV z := h8
          have e9 : γ 9 = dgV u := h9
          refine ⟨_, rfl, ?_⟩
          refine predOp_val (v := .pointer (some ⟨A + 4, k * 16, none⟩)) ?_ ?_ ?_
          · kernel_rfl
          · simp only [putE, e0, e1, e2, e3, e4, e5, e6, e7, e8, e9]
            go_simp
          · rfl
      · intro γ w9 hS h
        have hu : γ 9 = dgV u := h.2.2.2.2.2.2.2.2.2.1
        have hp : γ 10 = .pointer (some ⟨A + 4, k * 16, none⟩) := h.2.2.2.2.2.2.2.2.2.2
        simp only [putE, Act.put, List.setIfInBounds_toArray, List.set_cons_zero, List.set_cons_succ]
        rw [hu, hp]
        have HTHR := Kp.mk (hS.2.2.2.1.there (o := k * 16) (n := 16) (by rw [HYl.out]; omega))
        obtain ⟨V, hV⟩ : ∃ V, V = w9.setCells (A + 4) (k * 16) (kv .u8 u) := ⟨_, rfl⟩
        have D1 : Kp (Row V A 95 .u8 s) := ⟨by rw [hV]; exact Row.otherCells (by omega) _ _ _ hS.1⟩
        have D2 : Kp (Blk V (A + 1) (.cells #[.int .i64 d, .int .u32 x] 29)) := ⟨by rw [hV]; exact Blk.otherCells (by omega) _ _ _ hS.2.1⟩
        have D3 : Kp (Row V (A + 3) 41 .u8 (List.replicate 1088 0)) := ⟨by rw [hV]; exact Row.otherCells (by omega) _ _ _ hS.2.2.1⟩
        have D5 : Kp (Row V (A + 4) 41 .u8 (padS G (k + 1))) := ⟨by rw [hV, ← HYn.out]; exact Row.setCells u (k * 16) w9 y (by rw [HYl.out, HUl.out]; omega) hS.2.2.2.1⟩
        have D4 : Kp (Below A w V) := ⟨by rw [hV]; exact Below.cells (by omega) _ _ _ _ hS.2.2.2.2⟩
        have HV := Kp.mk hV
        clear h hS hu hp F1 F2 F3 F4 F5 hV
        refine wpOps_step rfl rfl ?_
        refine wp_store_mid 27 (.tmp 26) (.tmp 25) rfl (A + 4) (k * 16) (kv .u8 u).toArray ?hx ?hy ?ht (cells50 HUl.out) (kv_all _ _) ?_
        case hx => go_simp
        case hy => go_simp
        case ht => rw [kv_size, HUl.out]; exact HTHR.out
        refine wpOps_done ?_
        show _
        simp only [List.toList_toArray] at *
        rw [← HV.out]
        clear HV HTHR
        go_wp2_with fail
        exact ⟨⟨k + 1, by omega, by go_num, D1, D2, D3, D5, D4⟩, by simp [intOf]; omega⟩
    · obtain rfl : k = 68 := by omega
      have hge : ¬ ((68 : Nat) : Int) < 68 := by omega
      have K5 : Kp (Row wr (A + 4) 41 .u8 (signS s d x m)) := ⟨by have h := F5.out; rw [padS_all, HG.out] at h; exact h⟩
      have HT := Kp.mk (signS_len s d x m)
      clear F5
      generalize hy : signS s d x m = y at *
      have HY := Kp.mk hy
      clear hy
      have HC41 := Kp.mk (cells41 HT.out)
      have HZ : Kp ((kv .u8 (List.replicate 1088 0)).toArray.size = (kv .u8 y).toArray.size) := ⟨by rw [kv_size, kv_size, HT.out, List.length_replicate]⟩
      have KR := Kp.mk (F3.out.setRow y)
      have KB := Kp.mk (Below.row F4.out (g := A + 3) (by omega) (kv .u8 y).toArray)
      go_wp2_with (first
        | (refine wpList_load_row rfl 41 (.tmp 7) rfl (A + 4) rfl 41 (kv .u8 y).toArray (0, 0) _ K5.out Tryd.underlying41 rfl HC41.out ?_)
        | (refine wpList_store_row rfl 41 (.tmp 6) (.tmp 28) rfl (A + 3) (kv .u8 y).toArray rfl rfl 41 _ F3.out HC41.out HZ.out (kv_all _ _) ?_))
      refine bodyPost_ret (v := .agg (kv .u8 y).toArray) (results_cell_row rfl _ _ (A + 3) 41 _ (0, 0) _ rfl KR.out Tryd.underlying41 rfl HC41.out) rfl ⟨by rw [HY.out], by rw [← HA.out]; exact KB.out⟩
end Go.Proofs.YtpljjmdkagbjpaaDoor

namespace Go.Proofs.YtpljjmdkagbjpaaDoor

/-- What is left behind i bytes, and j digits of the next one, from the last one on. -/
def restI (m : List Int) (i : Nat) : Nat → Int
  | 0 => leftU m (4 * i)
  | j + 1 => restI m i j + (3 - dig m (4 * i + (3 - j)))
theorem restI_full (m : List Int) (i : Nat) : restI m i 4 = leftU m (4 * (i + 1)) := by
  show leftU m (4 * i) + (3 - dig m (4 * i + 3)) + (3 - dig m (4 * i + 2)) + (3 - dig m (4 * i + 1)) + (3 - dig m (4 * i)) = leftU m (4 * i) + (3 - dig m (4 * i)) + (3 - dig m (4 * i + 1)) + (3 - dig m (4 * i + 2)) + (3 - dig m (4 * i + 3))
  omega
theorem restI_range (m : List Int) (i j : Nat) : 0 ≤ restI m i j ∧ restI m i j ≤ 3 * (4 * i + j) := by
  induction j with
  | zero =>
    have := leftU_range m (4 * i)
    show 0 ≤ leftU m (4 * i) ∧ leftU m (4 * i) ≤ _
    omega
  | succ j ih =>
    have := dig_range m (4 * i + (3 - j))
    show 0 ≤ restI m i j + (3 - dig m (4 * i + (3 - j))) ∧ restI m i j + (3 - dig m (4 * i + (3 - j))) ≤ _
    omega
theorem dig_down (m : List Int) (i j : Nat) (hj : j < 4) : dig m (4 * i + (3 - j)) = m.getD i 0 / 4 ^ j % 4 := by
  unfold dig
  rw [show (4 * i + (3 - j)) / 4 = i by omega, show 3 - (4 * i + (3 - j)) % 4 = j by omega]
theorem pow4_step (x : Int) (j : Nat) : x / 4 ^ (j + 1) = x / 4 ^ j / 4 := by
  rw [Int.pow_succ, Int.ediv_ediv_of_nonneg (Int.pow_nonneg (by decide))]
theorem div4_range (x : Int) (j : Nat) (h0 : 0 ≤ x) {b : Int} (h1 : x ≤ b) : 0 ≤ x / 4 ^ j ∧ x / 4 ^ j ≤ b := by
  induction j with
  | zero => simp; omega
  | succ j ih => rw [pow4_step]; omega
theorem part_as (m : List Int) (S T : Nat → Bool) (h : ∀ c, c < 68 → S c = T c) : part m S = part m T := by
  unfold part
  apply List.map_congr_left
  intro c hc
  rw [h c (List.mem_range.1 hc)]
theorem chk_down (l : Int) (j : Nat) (hj : j < 4) : chk l (3 - j) = l / 4 ^ j % 4 := by
  unfold chk
  rw [show 3 - (3 - j) = j by omega]
end Go.Proofs.YtpljjmdkagbjpaaDoor
