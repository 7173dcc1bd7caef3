/-
  (*sha.Hash).end: what stands behind the last byte is taken in. (*sha.Hash).Blocks.
  The document's Pad.
  A row of rows of bytes that came in.
  Rows and hashes behind what leaves all below as it was; append to a literal.
  (*sha.Hash).Sum and sha.Sum.
  (Nothing of the examples is wanted here.)
  The laws' awake: the standard's example.
  Tags: plain lists; mac.keyBlock, mac.overlaid, mac.sum.
  mac.sum, mac.keyBlock.
-/
import Derived.Test.YtpljjmdkagbjpaaDoorOd02
import Derived.Laws.OwnMore
import Derived.Deep.MidRow
import Derived.Deep.RegionLaw
namespace Go.Proofs.YtpljjmdkagbjpaaDoor
open Go.RowKit

/-- The bytes behind a text of n bytes, but for the last of the length's. -/
def tl (n k : Nat) : List Int := [128] ++ List.replicate (zeros n) 0 ++ (be64 (8 * (n : Int) % 18446744073709551616)).take k
theorem be64_len (n : Int) : (be64 n).length = 8 := by simp [be64]
theorem tl_len (n k : Nat) (h : k ≤ 8) : (tl n k).length = zeros n + 1 + k := by simp [tl, be64_len]; omega
theorem tl_full (n : Nat) : tl n 8 = tail n := by unfold tl tail; rw [List.take_of_length_le (by rw [be64_len]; omega)]
theorem be64_get (n : Int) (j : Nat) (h : j < 8) : (be64 n).getD j 0 = n / 2 ^ (56 - 8 * j) % 256 := by
  match j, h with
  | 0, _ => rfl
  | 1, _ => rfl
  | 2, _ => rfl
  | 3, _ => rfl
  | 4, _ => rfl
  | 5, _ => rfl
  | 6, _ => rfl
  | 7, _ => rfl
theorem tl_succ (n k : Nat) (h : k < 8) : tl n (k + 1) = tl n k ++ [(8 * (n : Int) % 18446744073709551616) / 2 ^ (56 - 8 * k) % 256] := by
  unfold tl
  rw [← be64_get _ k h, List.take_succ_eq_append_getElem (by rw [be64_len]; exact h), List.append_assoc, List.getD_eq_getElem?_getD, List.getElem?_eq_getElem (by rw [be64_len]; exact h)]
  simp
theorem tl_bytes (n k : Nat) : Bytes (tl n k) := by
  intro x hx
  unfold tl at hx
  rcases List.mem_append.1 hx with hx | hx
  · rcases List.mem_append.1 hx with hx | hx
    · simp at hx; omega
    · have := List.eq_of_mem_replicate hx; omega
  · have := List.mem_of_mem_take hx
    unfold be64 at this
    obtain ⟨i, _, rfl⟩ := List.mem_map.1 this
    omega
theorem tl_zero (n : Nat) : fill 128 (tl n 0) = (fill 128 []).set 0 128 := by
  have hz : zeros n ≤ 63 := by unfold zeros; omega
  unfold fill tl
  simp only [List.take_zero, List.append_nil, List.length_append, List.length_cons, List.length_nil, List.length_replicate, List.nil_append, Nat.sub_zero]
  rw [List.append_assoc, List.replicate_append_replicate, show zeros n + (128 - (0 + 1 + zeros n)) = 127 by omega]
  rfl
theorem zeros_blocks (n : Nat) : 64 * blocks n = n + zeros n + 9 := by
  unfold blocks zeros
  split <;> omega
set_option maxRecDepth 100000 in
theorem slice99 (t k : Nat) (h : k ≤ 128) (w : World) : (Instr.sliceAt 156 (.pointer (some ⟨t, 0, none⟩)) none (some (.int .i64 k)) none).run Tryd.prog w = .ok (.slice (some ⟨t, 0, none⟩) k 128) w := by
  have hl : Tryd.prog.arrayLen 156 = 128 := by kernel_rfl
  have he : Tryd.prog.elem 156 = 5 := by kernel_rfl
  rw [run_sliceAt_array_h (ht := Tryd.underlying156) (h0 := by omega) (h2 := by rw [hl]; omega), hl, he, size5]
  simp only [Result.andThen, slicedAt, Int.toNat_natCast, Nat.mul_one]
  rw [if_neg (by omega)]
  have e : (⟨t, 0, none⟩ : Addr).add 0 = ⟨t, 0, none⟩ := by unfold Addr.add; split <;> simp_all
  rw [e]
  rfl
set_option maxRecDepth 100000 in
set_option maxHeartbeats 1000000 in
theorem end_any (b : Nat) (l : List Int) (w : World) (hk : KonIs w) (h0 : 0 < b) (hH : HashIs w b l) (hlen : l.length ≤ 999999999999000) :
    Calls Tryd.prog 89 #[.pointer (some ⟨b, 0, none⟩)] w fun r w' => r = .returned (.tuple #[]) ∧ HashTurn b (pad l) w w' := by
  have hH' := hH
  obtain ⟨rest, hr1, hr2, hr3, hB⟩ := hH'
  obtain ⟨n, hn0⟩ : ∃ n, n = l.length := ⟨_, rfl⟩
  rw [← hn0] at hB hr3 hlen
  have c72 : w.cell? ⟨b, 72, none⟩ = some (.int .i64 n) := by rw [hB.cell, hash_taken (list_len _) hr1]
  obtain ⟨B, hBl⟩ : ∃ B, B = blocks n := ⟨_, rfl⟩
  obtain ⟨z, hz⟩ : ∃ z, z = zeros n := ⟨_, rfl⟩
  have hbz := zeros_blocks n
  rw [← hBl, ← hz] at hbz
  have hz63 : z ≤ 63 := by rw [hz]; unfold zeros; omega
  have ebl := blkI_nat n
  rw [← hBl] at ebl
  have HEB := Lib.hid ebl
  have HK := Lib.hid hk
  have HH := Lib.hid hH
  have HN0 := Lib.hid hn0
  have HH0 := Lib.hid h0
  have HBZ := Lib.hid hbz
  have HZ := Lib.hid hz
  have HLt : Hid (b < w.heap.size) := hB.lt
  have bB : (B : Int) ≤ 1000000000000000 := by omega
  have bn : n ≤ 999999999999000 := hlen
  have hsz : 64 * (B : Int) - n = (z : Int) + 9 := by omega
  have HSZ := Lib.hid hsz
  clear hk hH hn0 h0 hB hr1 hr2 hr3 hBl hz hbz ebl hlen hsz
  have CB : Kp (∀ w, Calls Tryd.prog 101 #[.int .i64 n] w fun r w' => r = .returned (.int .i64 B) ∧ w' = w) := ⟨fun w => by have := blocks_any n w (by omega); rw [HEB.out] at this; exact this⟩
  have h8n : 8 * (n : Int) % 18446744073709551616 = (n : Int) * 8 := by omega
  have H8 := Kp.mk h8n
  clear h8n
  go_enter Tryd.func89, Tryd.ntmps89
  go_wp2_with fail
  refine wp_world (fun W => Row W w.heap.size 156 .u8 (fill 128 []) ∧ Below w.heap.size w W) ⟨Blk.newAt _ rfl, more (Below.refl _ _) _⟩ ?_
  rintro w2 ⟨hr, hb⟩
  have c72' : w2.cell? ⟨b, 72, none⟩ = some (.int .i64 n) := (World.cell?_of_block (w := w) (a := ⟨b, 72, none⟩) (hb.block b HLt.out)).trans c72
  have HR := Kp.mk hr
  have HB := Kp.mk hb
  clear hr hb c72
  go_quiet ((go_at_call 101; exact Calls.quiet_of_same (CB.out _)))
  have HR2 := Kp.mk (HR.out.drewN nq)
  have HB2 := Kp.mk (below_drewN HB.out nq)
  clear c72' HR HB
  generalize w2.drewN nq = w3 at *
  have cw := HR2.out.cell (i := 0) (by rw [fill_len (by simp)]; omega)
  have fw := HR2.out.frozen 0
  go_wp2_with fail
  have hsz : (B : Int) * 64 - n = (z : Int) + 9 := by have := HSZ.out; omega
  rw [hsz]
  clear hsz cw fw
  generalize hE : (n : Int) * 8 = E
  have e0 : 0 ≤ E := by omega
  have e1 : E ≤ 9000000000000000 := by omega
  have HE := Kp.mk hE
  clear hE
  refine wp_world (fun W => Row W w.heap.size 156 .u8 (fill 128 (tl n 0)) ∧ Below w.heap.size w W) ⟨by rw [tl_zero]; exact HR2.out.set 0 128, HB2.out.setCell (by simp) _⟩ ?_
  rintro w4 ⟨hr, hb⟩
  have HR3 := Kp.mk hr
  have HB3 := Kp.mk hb
  clear hr hb HR2 HB2
  go_loopw [24] (fun c wr => ∃ j : Nat, j ≤ 8 ∧ c = .int .i64 j ∧ Row wr w.heap.size 156 .u8 (fill 128 (tl n j)) ∧ Below w.heap.size w wr) (fun c _ => 8 - (intOf c).toNat)
  case atStart => exact ⟨0, by omega, rfl, HR3.out, HB3.out⟩
  case round =>
    obtain ⟨j, hj, rfl, hr, hb⟩ := hrel
    have HR4 := Kp.mk hr
    have HB4 := Kp.mk hb
    clear hr hb HR3 HB3
    by_cases hlt : j < 8
    · have hpl := tl_len n j hj
      rw [← HZ.out] at hpl
      have HPL := Kp.mk hpl
      have cw := HR4.out.cell (i := z + 1 + j) (by rw [fill_len (by omega)]; omega)
      have fw := HR4.out.frozen (z + 1 + j)
      clear hpl
      go_wp2_with fail
      refine ⟨⟨j + 1, by omega, by go_num, ?_, HB4.out.setCell (by simp) _⟩, by simp [intOf]; omega⟩
      refine (HR4.out.set (z + 1 + j) _).as ?_
      rw [tl_succ n j hlt, ← fill_set (by rw [HPL.out]; omega), HPL.out, H8.out, HE.out]
    · have HJ : Kp (j = 8) := ⟨by omega⟩
      have hge : 8 ≤ (j : Int) := by omega
      have hs := slice99 w.heap.size (z + 9) (by omega)
      rw [show ((z + 9 : Nat) : Int) = (z : Int) + 9 by omega] at hs
      have hl : (tl n 8).length = z + 9 := by rw [tl_len n 8 (by omega), HZ.out]
      have HHX : Kp (HoldsX wr b (.slice (some ⟨w.heap.size, 0, none⟩) (z + 9) 128) (tl n 8)) := by
        have hr := HR4.out
        rw [HJ.out] at hr
        refine ⟨(HoldsB.ofRow2 (off := 0) hr hl.symm (by omega) (by unfold maxLen; omega) (fun i hi => ?_) (tl_bytes n 8)), ?_⟩
        · simp only [Nat.zero_add, List.getElem?_toArray, List.getElem?_map]
          have h1 := fill_get (n := 128) hi
          have h2 : i < (fill 128 (tl n 8)).length := by rw [fill_len (by omega)]; omega
          rw [List.getD_eq_getElem?_getD, List.getElem?_eq_getElem h2] at h1
          rw [List.getElem?_eq_getElem h2, ← h1]
          rfl
        · intro x k c he _
          simp only [Value.slice.injEq, Option.some.injEq] at he
          rw [← he.1]
          have := HLt.out
          show w.heap.size ≠ b
          omega
      have HL := Kp.mk hl
      clear hlt hj hl
      go_wp2_with fail
      refine (write_any b l (tl n 8) _ wr (HK.out.keep HB4.out) HH0.out (HH.out.keep HB4.out) HHX.out (by rw [HL.out, ← HN0.out]; omega)).mono ?_
      rintro r w5 ⟨rfl, h5⟩
      have H5 := Kp.mk h5
      clear h5
      go_wp2_with fail
      go_end0
      obtain ⟨rest', q1, q2, q3, q4⟩ := H5.out
      have e : l ++ tl n 8 = pad l := by unfold pad; rw [tl_full, HN0.out]
      rw [e] at q3 q4
      exact ⟨rfl, rest', q1, q2, q3, Turn.ahead HB4.out q4⟩
end Go.Proofs.YtpljjmdkagbjpaaDoor

namespace Go.Proofs.YtpljjmdkagbjpaaDoor
open Go.RowKit

set_option maxRecDepth 100000 in
/-- append of bytes that stand somewhere, to a row of the call's own. -/
theorem wpList_append_holds {w : World} {ops : Array Oper} {rest : List Oper} {o : Oper} {a : Act} {Q : Exit → Act → World → Prop} (hgd : o.guard = none) (s x : Operand)
    (ho : o.op = .call { callee := .builtin .append, args := #[s, x], argTypes := #[32, 32] })
    (base : Nat) (v : Value) (n : Nat) (xs : List Value) (hs : a.eval s = v) (hown : w.ownsRow base 5 1 v n xs)
    (M : Nat) (u : Value) (p : List Int) (hx : a.eval x = u) (hp : HoldsB w M u p) (h63 : n + p.length ≤ 140737488355328) (hbase : base ≤ w.heap.size)
    (h : ∀ v' w', w'.ownsRow base 5 1 v' (n + p.length) (xs ++ bv p) → w.grownBy w' v.ownBlock → wpList Tryd.prog ops Q rest (a.put o.dst v') w') : wpList Tryd.prog ops Q (o :: rest) a w := by
  obtain ⟨i0, hi, hz0, hz1, hz2⟩ := info_parts info5
  obtain ⟨ad, m, cap, rfl, hm⟩ := hp.slice
  cases ad with
  | none =>
    obtain ⟨a', cap', h1, h2, h3, h4, h5, h6, h7⟩ := hp
    simp only [Value.slice.injEq] at h1
    have hc := h4 h1.1.symm
    have hl : p = [] := List.length_eq_zero_iff.1 (by omega)
    subst hl
    have hx' : a.eval x = .slice none 0 0 := by rw [hx]; simp only [Value.slice.injEq, true_and]; exact ⟨by simpa using hm, by omega⟩
    exact wpList_append_own_none hgd s x 32 ho base 5 i0 1 Tryd.underlying32 hi v n xs hs hown hx' (h v w (by simpa using hown) ⟨rfl, rfl, rfl, Nat.le_refl _, fun _ _ _ => rfl⟩)
  | some ad =>
    refine wpList_append_own w hgd s x 32 ho base 5 i0 (.int .u8 0) 1 1 Tryd.underlying32 hi hz0 hz1 hz2 rfl (by decide) v n xs hs hown ad m cap (bv p) hx (by rw [bv_len]; omega) hp.news (bv_one _) (by unfold maxLen; omega) (by omega) hbase fun v' w' h1 h2 _ => ?_
    rw [hm] at h1
    exact h v' w' h1 h2
theorem row_slice {w : World} {base n : Nat} {v : Value} {xs : List Value} (h : w.ownsRow base 5 1 v n xs) : ∃ a c, v = .slice a n c := by
  rcases h.2 with ⟨rfl, hn⟩ | ⟨g, cap, cur, rfl, _⟩
  · subst hn; exact ⟨_, _, rfl⟩
  · exact ⟨_, _, rfl⟩
/-- One byte in a new block, as a slice. -/
theorem one_holds (w : World) (x : Int) (h : 0 ≤ x ∧ x ≤ 255) : HoldsB (w.alloc (.cells #[.int .u8 x] 5)) (w.alloc (.cells #[.int .u8 x] 5)).heap.size (.slice (some ⟨w.heap.size, 0, none⟩) 1 1) [x] :=
  HoldsB.ofRow2 (off := 0) (Blk.new w _) rfl (Nat.le_refl _) (by unfold maxLen; omega) (fun i hi => match i, hi with | 0, _ => rfl | i + 1, hi => absurd hi (by simp)) (fun y hy => by simp at hy; subst hy; exact h)
/-- What stands in the length's bytes behind j rounds. -/
def lowst (E : Int) (j : Nat) : List Int := List.replicate (8 - j) 0 ++ (be64 E).drop (8 - j)
theorem lowst_len (E : Int) (j : Nat) (_h : j ≤ 8) : (lowst E j).length = 8 := by simp [lowst, be64_len]
theorem lowst_zero (E : Int) : lowst E 0 = List.replicate 8 0 := by simp [lowst, be64]
theorem lowst_full (E : Int) : lowst E 8 = be64 E := by simp [lowst]
theorem lowst_set (E : Int) (j : Nat) (h : j < 8) : (lowst E j).set (7 - j) (E / 256 ^ j % 256) = lowst E (j + 1) := by
  match j, h with
  | 0, _ => exact (show [0, 0, 0, 0, 0, 0, 0, E / 256 ^ 0 % 256] = lowst E 1 from rfl)
  | 1, _ => rfl
  | 2, _ => rfl
  | 3, _ => rfl
  | 4, _ => rfl
  | 5, _ => rfl
  | 6, _ => rfl
  | 7, _ => rfl
theorem be64_bytes (E : Int) : Bytes (be64 E) := by
  intro x hx
  unfold be64 at hx
  obtain ⟨i, _, rfl⟩ := List.mem_map.1 hx
  omega
set_option maxRecDepth 100000 in
theorem slice74_all (b : Nat) (w : World) : (Instr.sliceAt 158 (.pointer (some ⟨b, 0, none⟩)) none none none).run Tryd.prog w = .ok (.slice (some ⟨b, 0, none⟩) 8 8) w := by
  have hl : Tryd.prog.arrayLen 158 = 8 := by kernel_rfl
  have he : Tryd.prog.elem 158 = 5 := by kernel_rfl
  rw [run_sliceAt_array_all (ht := Tryd.underlying158), hl, he, size5]
  rfl
theorem ownsRow_set {w : World} {base n size D i : Nat} {e : TypeId} {v x : Value} {xs : List Value} (h : w.ownsRow base e size v n xs) (hne : v.ownBlock ≠ some D) : (w.setCell ⟨D, i, none⟩ x).ownsRow base e size v n xs :=
  h.kept (row := some D) ⟨rfl, rfl, rfl, by simp [World.setCell], fun k _ hk => Below.heap_setCell _ _ _ _ (fun e => hk (by simp [e]))⟩ (Or.inr hne)
def sliceLen : Value → Nat
  | .slice _ n _ => n
  | _ => 0
abbrev pre (p : List Int) (k : Nat) : List Int := p ++ ([128] ++ List.replicate k 0)
theorem pre_len (p : List Int) (k : Nat) : (pre p k).length = p.length + 1 + k := by simp; omega
theorem pre_succ (p : List Int) (k : Nat) : pre p (k + 1) = pre p k ++ [0] := by
  unfold pre
  rw [List.replicate_succ']
  simp
theorem pre_pad (p : List Int) : pre p (zeros p.length) ++ be64 (8 * (p.length : Int) % 18446744073709551616) = pad p := by
  unfold pre pad tail
  simp
set_option maxRecDepth 100000 in
set_option maxHeartbeats 2000000 in
theorem pad_any (M : Nat) (v : Value) (p : List Int) (w : World) (h : HoldsB w M v p) (hlen : p.length ≤ 140737488351400) :
    Calls Tryd.prog 90 #[v] w fun r w' => ∃ v', r = .returned v' ∧ w'.ownsRow w.heap.size 5 1 v' (pad p).length (bv (pad p)) ∧ Below w.heap.size w w' := by
  have H := Kp.mk h
  obtain ⟨a, len, cap, rfl, hn⟩ := h.slice
  have HN := Kp.mk hn
  have hl : len ≤ 140737488351400 := by omega
  clear h hn hlen
  go_enter Tryd.func90, Tryd.ntmps90
  go_wp2_with (at_builtin; refine wpList_append_holds rfl _ _ rfl w.heap.size _ _ _ rfl (World.ownsRow_made w #[] 0 (Nat.le_refl _) (by unfold maxLen; omega) rfl) M _ p rfl (H.out.alloc _) ?c0 ?c1 ?_)
  case c0 => have := HN.out; omega
  case c1 => simp
  intro v1 w1 ho hg
  have hbel : Below w.heap.size w w1 := below_row_grown (more (Below.refl _ _) (.cells #[] 5)) (by simp) (World.ownsRow_made (e := 5) (size := 1) w #[] 0 (Nat.le_refl _) (by unfold maxLen; omega) rfl) hg
  have ho1 : w1.ownsRow w.heap.size 5 1 v1 len (bv p) := by
    rw [HN.out]
    simpa using ho
  obtain ⟨a1, c1, rfl⟩ := row_slice ho1
  have HO1 := Kp.mk ho1
  have HB1 := Kp.mk hbel
  clear ho hg hbel ho1
  go_wp2_with (at_builtin; refine wpList_append_holds rfl _ _ rfl w.heap.size _ _ _ rfl (HO1.out.alloc _) _ _ [128] rfl (one_holds w1 128 (by omega)) ?d0 ?d1 ?_)
  case d0 => simp; omega
  case d1 => have := HB1.out.size; simp; omega
  intro v2 w2 ho hg
  have hbel : Below w.heap.size w w2 := below_row_grown (HB1.out.alloc HB1.out.size _) (by have := HB1.out.size; simp; omega) (HO1.out.alloc _) hg
  obtain ⟨L0, hL0⟩ : ∃ L0, L0 = len + 1 := ⟨_, rfl⟩
  have ho2 : w2.ownsRow w.heap.size 5 1 v2 L0 (bv (pre p 0)) := by
    have e : bv (pre p 0) = bv p ++ bv [128] := by simp
    rw [e, hL0]
    simpa using ho
  obtain ⟨a2, c2, rfl⟩ := row_slice ho2
  have HO2 := Kp.mk ho2
  have HB2 := Kp.mk hbel
  clear ho hg hbel ho2 HO1 HB1
  obtain ⟨z, hz⟩ : ∃ z, z = zeros len := ⟨_, rfl⟩
  have hz63 : z ≤ 63 := by rw [hz]; unfold zeros; omega
  have hzm : (L0 + z) % 64 = 56 := by rw [hz]; unfold zeros; omega
  have hzl : ∀ k, k < z → (L0 + k) % 64 ≠ 56 := by rw [hz]; unfold zeros; omega
  have HL0 := Kp.mk hL0
  have hlb : L0 ≤ 140737488351401 := by omega
  have HZ := Kp.mk hz
  have HZM := Kp.mk hzm
  have HZL := Kp.mk hzl
  clear hz hzm hzl hL0
  go_wp2_with fail
  go_loopw [3] (fun s3 wr => ∃ (k : Nat) (a3 : Option Addr) (c3 : Nat), k ≤ z ∧ s3 = .slice a3 (L0 + k) c3 ∧ Kp (wr.ownsRow w.heap.size 5 1 (.slice a3 (L0 + k) c3) (L0 + k) (bv (pre p k))) ∧ Below w.heap.size w wr) (fun s3 _ => L0 + z - sliceLen s3)
  case atStart => exact ⟨0, a2, c2, by omega, rfl, HO2, HB2.out⟩
  case round =>
    obtain ⟨k, a3, c3, hk, rfl, HO3, hbe⟩ := hrel
    have HB3 := Kp.mk hbe
    clear hbe HO2 HB2
    obtain ⟨L, hL⟩ : ∃ L, L = L0 + k := ⟨_, rfl⟩
    rw [← hL] at HO3
    rw [← hL]
    by_cases hlt : k < z
    · have hne := HZL.out k hlt
      rw [← hL] at hne
      have t1 : ((L : Int) % 64 == 56) = false := by rw [beq_eq_false_iff_ne]; omega
      have t2 : ((L : Int) % 64 != 56) = true := by rw [bne_iff_ne]; omega
      have hb : L ≤ 140737488352000 := by omega
      have HLe := Kp.mk hL
      clear hL hne
      go_wp2_with (at_builtin; refine wpList_append_holds rfl _ _ rfl w.heap.size _ _ _ rfl (HO3.out.alloc _) _ _ [0] rfl (one_holds wr 0 (by omega)) ?e0 ?e1 ?_)
      case e0 => simp; omega
      case e1 => have := HB3.out.size; simp; omega
      intro v4 w4 ho hg
      have hbel : Below w.heap.size w w4 := below_row_grown (HB3.out.alloc HB3.out.size _) (by have := HB3.out.size; simp; omega) (HO3.out.alloc _) hg
      have ho4 : w4.ownsRow w.heap.size 5 1 v4 (L0 + (k + 1)) (bv (pre p (k + 1))) := by
        rw [pre_succ, ← Nat.add_assoc, ← HLe.out]
        simpa using ho
      obtain ⟨a4, c4, rfl⟩ := row_slice ho4
      have HO4 := Kp.mk ho4
      have HB4 := Kp.mk hbel
      clear ho hg hbel ho4
      go_wp2_with fail
      refine ⟨⟨k + 1, a4, c4, by omega, rfl, HO4, HB4.out⟩, ?_⟩
      rw [HLe.out]
      simp [sliceLen]
      omega
    · have HK : Kp (k = z) := ⟨by omega⟩
      have hmm := HZM.out
      rw [← HK.out, ← hL] at hmm
      have t1 : ((L : Int) % 64 == 56) = true := by rw [beq_iff_eq]; omega
      have t2 : ((L : Int) % 64 != 56) = false := by rw [bne_eq_false_iff_eq]; omega
      have hb : L ≤ 140737488352000 := by omega
      have HLe := Kp.mk hL
      have HO5 : Kp (wr.ownsRow w.heap.size 5 1 (.slice a3 L c3) L (bv (pre p z))) := by
        have h := HO3.out
        rw [HK.out] at h
        exact ⟨h⟩
      clear hL hmm hlt hk HO3
      obtain ⟨D, hD⟩ : ∃ D, D = wr.heap.size := ⟨_, rfl⟩
      have HD := Kp.mk hD
      clear hD
      go_wp2_with fail
      rw [← HD.out]
      generalize hE : (len : Int) * 8 = E
      have e0 : 0 ≤ E := by omega
      have e1 : E ≤ 9000000000000000 := by omega
      have HE : Kp (8 * (p.length : Int) % 18446744073709551616 = E) := ⟨by have := HN.out; omega⟩
      clear hE t1 t2
      refine wp_world (fun W => Row W D 158 .u8 (lowst E 0) ∧ W.ownsRow w.heap.size 5 1 (.slice a3 L c3) L (bv (pre p z)) ∧ Below w.heap.size w W) ⟨by rw [lowst_zero]; exact Blk.newAt _ HD.out, HO5.out.alloc _, HB3.out.alloc HB3.out.size _⟩ ?_
      rintro w5 ⟨h1, h2, h3⟩
      have HDB : Kp (w.heap.size ≤ D ∧ (∀ g, a3 = some g → g.block ≠ D)) := ⟨⟨by rw [HD.out]; exact HB3.out.size, fun g hg => by
        subst hg
        have := (HO5.out.lt g.block (by simp [Value.ownBlock])).2
        rw [HD.out]
        omega⟩⟩
      have F1 := Kp.mk h1
      have F2 := Kp.mk h2
      have F3 := Kp.mk h3
      clear h1 h2 h3 HO5 HD HB3
      go_loopw [4, 6] (fun q c wr => ∃ j : Nat, j ≤ 8 ∧ c = .int .i64 ((7 : Int) - j) ∧ q = .int .u64 (E / 256 ^ j) ∧ Row wr D 158 .u8 (lowst E j) ∧ wr.ownsRow w.heap.size 5 1 (.slice a3 L c3) L (bv (pre p z)) ∧ Below w.heap.size w wr) (fun _ c _ => (intOf c + 1).toNat)
      case atStart => exact ⟨0, by omega, rfl, by simp, F1.out, F2.out, F3.out⟩
      case round =>
        obtain ⟨j, hj, rfl, rfl, h1, h2, h3⟩ := hrel
        have G1 := Kp.mk h1
        have G2 := Kp.mk h2
        have G3 := Kp.mk h3
        clear h1 h2 h3 F1 F2 F3
        have q0 : 0 ≤ E / 256 ^ j := Int.ediv_nonneg e0 (Int.pow_nonneg (by decide))
        have q1 : E / 256 ^ j ≤ 9000000000000000 := Int.le_trans (Int.ediv_le_self _ e0) e1
        have HQ : Kp (E / 256 ^ j / 256 = E / 256 ^ (j + 1)) := ⟨by rw [Int.ediv_ediv_of_nonneg (Int.pow_nonneg (by decide)), Int.pow_succ]⟩
        have HS := fun h => Kp.mk (lowst_set E j h)
        generalize hQ : E / 256 ^ j = Q at *
        by_cases hlj : j < 8
        · have HS2 := HS hlj
          clear HS
          obtain ⟨i, hi⟩ : ∃ i : Nat, (7 : Int) - j = i := ⟨7 - j, by omega⟩
          have HI : Kp (i = 7 - j ∧ i < 8) := ⟨by omega⟩
          rw [hi]
          have i8 : i < 8 := by omega
          have cw := G1.out.cell (i := i) (by rw [lowst_len E j hj]; exact i8)
          have fw := G1.out.frozen i
          have HHi := Kp.mk hi
          clear hi hQ
          go_wp2_with fail
          refine ⟨⟨j + 1, by omega, ?_, ?_, ?_, ?_, G3.out.setCell HDB.out.1 _⟩, by simp [intOf]⟩
          · have := HHi.out
            congr 1
            omega
          · rw [HQ.out]
          · refine (G1.out.set i _).as ?_
            rw [HI.out.1]
            exact HS2.out
          · refine ownsRow_set G2.out ?_
            cases a3 with
            | none => simp [Value.ownBlock]
            | some g => simp only [Value.ownBlock, ne_eq, Option.some.injEq]; exact HDB.out.2 g rfl
        · have HJ : Kp (j = 8) := ⟨by omega⟩
          obtain ⟨i, hi⟩ : ∃ i : Int, (7 : Int) - j = i := ⟨_, rfl⟩
          rw [hi]
          have i0 : i < 0 := by omega
          have hs := slice74_all D
          have G4 : Kp (Row wr D 158 .u8 (be64 E)) := by
            have h := G1.out
            rw [HJ.out, lowst_full] at h
            exact ⟨h⟩
          have HH : Kp (HoldsB wr wr.heap.size (.slice (some ⟨D, 0, none⟩) 8 8) (be64 E)) :=
            ⟨HoldsB.ofRow2 (off := 0) G4.out (be64_len E).symm (Nat.le_refl _) (by unfold maxLen; omega) (fun i hi => by simp [List.getElem?_eq_getElem hi, List.getD_eq_getElem?_getD]) (be64_bytes E)⟩
          have HLn : Kp (L = L0 + z) := ⟨by have := HLe.out; have := HK.out; omega⟩
          clear HS hi hQ G1 hlj hj
          go_wp2_with (at_builtin; refine wpList_append_holds rfl _ _ rfl w.heap.size _ _ _ rfl G2.out _ _ (be64 E) rfl HH.out ?f0 ?f1 ?_)
          case f0 => rw [be64_len]; omega
          case f1 => exact G3.out.size
          intro v6 w6 ho hg
          have hbel : Below w.heap.size w w6 := below_row_grown G3.out G3.out.size G2.out hg
          have ho6 : w6.ownsRow w.heap.size 5 1 v6 (pad p).length (bv (pad p)) := by
            have e1 : pre p z ++ be64 E = pad p := by rw [HZ.out, HN.out, ← HE.out]; exact pre_pad p
            rw [be64_len] at ho
            have e2 : bv (pad p) = bv (pre p z) ++ bv (be64 E) := by rw [← e1]; simp
            have e3 : (pad p).length = L + 8 := by rw [← e1, List.length_append, pre_len, be64_len]; have := HLn.out; have := HL0.out; have := HN.out; omega
            rw [e2, e3]
            simpa using ho
          have HO6 := Kp.mk ho6
          have HB6 := Kp.mk hbel
          clear ho hg hbel ho6 hs
          go_wp2_with fail
          go_ret
          exact ⟨_, rfl, HO6.out, HB6.out⟩
end Go.Proofs.YtpljjmdkagbjpaaDoor

namespace Go.Proofs.YtpljjmdkagbjpaaDoor
open Go.RowKit

/-- The slice v shows rows of bytes. -/
def HoldsP (w : World) (v : Value) (zs : List (List Int)) : Prop :=
  ∃ a cap, v = .slice a zs.length cap ∧ zs.length ≤ maxLen ∧ ∀ i, i < zs.length → ∃ b off a1 n1 c1, a = some ⟨b, off, none⟩ ∧ b < w.heap.size ∧ w.cell? ⟨b, off + i, none⟩ = some (.slice a1 n1 c1) ∧ HoldsB w w.heap.size (.slice a1 n1 c1) (zs.getD i [])
theorem HoldsP.keep {w w' : World} {v : Value} {zs : List (List Int)} (h : HoldsP w v zs) (hb : Below w.heap.size w w') : HoldsP w' v zs := by
  obtain ⟨a, cap, h1, h2, h3⟩ := h
  refine ⟨a, cap, h1, h2, fun i hi => ?_⟩
  obtain ⟨b, off, a1, n1, c1, e1, e2, e3, e4⟩ := h3 i hi
  exact ⟨b, off, a1, n1, c1, e1, Nat.lt_of_lt_of_le e2 hb.size, (hb.cell (p := ⟨b, off + i, none⟩) e2).trans e3, (e4.keep hb).mono hb.size⟩
theorem HoldsP.slice {w : World} {v : Value} {zs : List (List Int)} (h : HoldsP w v zs) : ∃ a n cap, v = .slice a n cap ∧ n = zs.length := by
  obtain ⟨a, cap, h1, _⟩ := h
  exact ⟨a, _, cap, h1, rfl⟩
open Go.ChangeShapes Go.WideShapes Go.ChangeAt Go.Deep in
theorem trod_row {H : Type} {enc : TypeId × Value → H} {W : World} {n : Nat} {V : Value} {d : DataW H} {p : List MemPlace}
    (h : DataW.trod enc Tryd.prog W 0 (fun _ => true) true n 32 [V] = some (d, p)) : ∃ a len cap l, V = .slice a len cap ∧ HoldsB W W.heap.size (.slice a len cap) l := by
  rcases open_slice1 Tryd.underlying32 (by kernel_rfl) h with ⟨hcs, _⟩ | ⟨x, l, c, m, n', V', D, Pl, hcs, _⟩
  · simp only [List.cons.injEq, and_true] at hcs
    subst hcs
    exact ⟨_, _, _, [], rfl, HoldsB.nil _ _⟩
  · simp only [List.cons.injEq, and_true] at hcs
    subst hcs
    obtain ⟨l', h'⟩ := row_bytes (enc := enc) (W := W) (a := some x) (len := l) (cap := c) (d := d) (p := p) ⟨n, h⟩
    exact ⟨_, _, _, l', rfl, h'⟩
open Go.ChangeShapes Go.WideShapes Go.ChangeAt Go.Deep in
/-- A slice of slices of bytes that came in. -/
theorem row_parts {H : Type} {enc : TypeId × Value → H} {W : World} {a : Option Addr} {len cap : Nat} {d : DataW H} {p : List MemPlace}
    (k : DataW.Trod enc Tryd.prog W 0 (fun _ => true) true 37 (.slice a len cap) d p) : ∃ zs, HoldsP W (.slice a len cap) zs := by
  obtain ⟨fuel, hf⟩ := k
  rcases open_slice1 Tryd.underlying37 (by kernel_rfl) hf with ⟨hcs, _⟩ | ⟨x, l, c, m, n, V, D, Pl, hcs, hb, hl, hm, hmm, hx, hi⟩
  · simp [Value.cells] at hcs
    obtain ⟨rfl, rfl, rfl⟩ := hcs
    exact ⟨[], none, 0, rfl, by unfold maxLen; simp, fun i hi => by simp at hi⟩
  · simp [Value.cells] at hcs
    obtain ⟨rfl, rfl, rfl⟩ := hcs
    have hmc : m = cap := by simpa using hmm
    have each : ∀ i, i < len → ∃ l', ∃ a1 n1 c1, W.cell? (x.add i) = some (.slice a1 n1 c1) ∧ HoldsB W W.heap.size (.slice a1 n1 c1) l' := fun i him => by
      obtain ⟨hc, ht⟩ := hi i (by omega)
      obtain ⟨a1, n1, c1, l', e, hh⟩ := trod_row ht
      rw [e] at hc
      exact ⟨l', a1, n1, c1, hc, hh⟩
    obtain ⟨f, hf'⟩ : ∃ f : Nat → List Int, ∀ i, i < len → ∃ a1 n1 c1, W.cell? (x.add i) = some (.slice a1 n1 c1) ∧ HoldsB W W.heap.size (.slice a1 n1 c1) (f i) := by
      refine ⟨fun i => if h : i < len then Classical.choose (each i h) else [], fun i hi => ?_⟩
      simp only [hi, dif_pos]
      exact Classical.choose_spec (each i hi)
    refine ⟨(List.range len).map f, some x, cap, by simp, by simp; omega, fun i hi' => ?_⟩
    simp at hi'
    obtain ⟨a1, n1, c1, e1, e2⟩ := hf' i hi'
    have hsp : x.spot = none ∧ x.block < W.heap.size := by
      obtain ⟨_, _, _, h1, _⟩ := hf' 0 (by omega)
      have h2 : x.add 0 = x := by simp [Addr.add]
      rw [h2] at h1
      exact ⟨World.cell?_spot h1, World.block_lt_of_cell? W _ h1⟩
    obtain ⟨b, off, spot⟩ := x
    simp only at hsp
    obtain ⟨rfl, hlt⟩ := hsp
    have e : (⟨b, off, none⟩ : Addr).add i = ⟨b, off + i, none⟩ := by unfold Addr.add; split <;> simp_all
    rw [e] at e1
    refine ⟨b, off, a1, n1, c1, rfl, hlt, e1, ?_⟩
    rw [List.getD_eq_getElem?_getD, List.getElem?_map, List.getElem?_range hi']
    exact e2
end Go.Proofs.YtpljjmdkagbjpaaDoor

namespace Go.Proofs.YtpljjmdkagbjpaaDoor
open Go.RowKit

theorem row_upto {w w' : World} {base B n : Nat} {e : TypeId} {v : Value} {xs : List Value} (h : w.ownsRow base e 1 v n xs) (hlt : ∀ g, v.ownBlock = some g → g < B) (hb : Below B w w') : w'.ownsRow base e 1 v n xs := by
  obtain ⟨h1, h2⟩ := h
  refine ⟨h1, ?_⟩
  rcases h2 with h2 | ⟨g, cap, cur, e1, hg, hh, r⟩
  · exact .inl h2
  · subst e1
    exact .inr ⟨g, cap, cur, rfl, hg, (hb.block g (hlt g rfl)).trans hh, r⟩
theorem HashIs.upto {w w' : World} {b B : Nat} {l : List Int} (h : HashIs w b l) (hb : Below B w w') (hB : b < B) : HashIs w' b l := by
  obtain ⟨rest, h1, h2, h3, h4⟩ := h
  exact ⟨rest, h1, h2, h3, h4.upto hb hB⟩
theorem bits_u8 (op : BinOp) (x y : Int) : 0 ≤ bits op .u8 x y ∧ bits op .u8 x y ≤ 255 := by
  unfold bits
  simp only [IntKind.wrap_u8']
  omega
/-- append of bytes to an empty row that the call made: what is handed back isn't nil. -/
theorem wpList_append_made {w : World} {ops : Array Oper} {rest : List Oper} {o : Oper} {a : Act} {Q : Exit → Act → World → Prop} (hgd : o.guard = none) (s x : Operand)
    (ho : o.op = .call { callee := .builtin .append, args := #[s, x], argTypes := #[32, 32] })
    (base g0 : Nat) (hs : a.eval s = .slice (some ⟨g0, 0, none⟩) 0 0) (hown : w.ownsRow base 5 1 (.slice (some ⟨g0, 0, none⟩) 0 0) 0 [])
    (M : Nat) (u : Value) (p : List Int) (hx : a.eval x = u) (hp : HoldsB w M u p) (h63 : p.length ≤ 140737488355328) (hbase : base ≤ w.heap.size)
    (h : ∀ g c w', w'.ownsRow base 5 1 (.slice (some ⟨g, 0, none⟩) p.length c) p.length (kv .u8 p) → w.grownBy w' (some g0) → wpList Tryd.prog ops Q rest (a.put o.dst (.slice (some ⟨g, 0, none⟩) p.length c)) w') : wpList Tryd.prog ops Q (o :: rest) a w := by
  obtain ⟨i0, hi, hz0, hz1, hz2⟩ := info_parts info5
  obtain ⟨ad, m, cap, rfl, hm⟩ := hp.slice
  cases ad with
  | none =>
    obtain ⟨a', cap', h1, h2, h3, h4, h5, h6, h7⟩ := hp
    simp only [Value.slice.injEq] at h1
    have hc := h4 h1.1.symm
    have hl : p = [] := List.length_eq_zero_iff.1 (by omega)
    subst hl
    have hx' : a.eval x = .slice none 0 0 := by rw [hx]; simp only [Value.slice.injEq, true_and]; exact ⟨by simpa using hm, by omega⟩
    exact wpList_append_own_none hgd s x 32 ho base 5 i0 1 Tryd.underlying32 hi _ 0 [] hs hown hx' (h g0 0 w hown ⟨rfl, rfl, rfl, Nat.le_refl _, fun _ _ _ => rfl⟩)
  | some ad =>
    refine wpList_append_own w hgd s x 32 ho base 5 i0 (.int .u8 0) 1 1 Tryd.underlying32 hi hz0 hz1 hz2 rfl (by decide) _ 0 [] hs hown ad m cap (bv p) hx (by rw [bv_len]; omega) hp.news (bv_one _) (by unfold maxLen; omega) (by omega) hbase fun v' w' h1 h2 h3 => ?_
    rw [hm, Nat.zero_add, List.nil_append] at h1
    rcases h1.2 with ⟨rfl, hn⟩ | ⟨g, c, cur, rfl, _⟩
    · exact absurd (h3.1 rfl).1 (by simp)
    · exact h g c w' h1 h2
end Go.Proofs.YtpljjmdkagbjpaaDoor

namespace Go.Proofs.YtpljjmdkagbjpaaDoor
open Go.RowKit

theorem bytes_get (s : St) (i j : Nat) (hi : i < 8) (hj : j < 4) : s.bytes.getD (4 * i + j) 0 = s.list.getD i 0 / 2 ^ (24 - 8 * j) % 256 := by
  match j, hj with
  | 0, _ =>
    match i, hi with
    | 0, _ => rfl
    | 1, _ => rfl
    | 2, _ => rfl
    | 3, _ => rfl
    | 4, _ => rfl
    | 5, _ => rfl
    | 6, _ => rfl
    | 7, _ => rfl
  | 1, _ =>
    match i, hi with
    | 0, _ => rfl
    | 1, _ => rfl
    | 2, _ => rfl
    | 3, _ => rfl
    | 4, _ => rfl
    | 5, _ => rfl
    | 6, _ => rfl
    | 7, _ => rfl
  | 2, _ =>
    match i, hi with
    | 0, _ => rfl
    | 1, _ => rfl
    | 2, _ => rfl
    | 3, _ => rfl
    | 4, _ => rfl
    | 5, _ => rfl
    | 6, _ => rfl
    | 7, _ => rfl
  | 3, _ =>
    match i, hi with
    | 0, _ => exact (show s.a % 256 = s.a / 1 % 256 by rw [Int.ediv_one])
    | 1, _ => exact (show s.b % 256 = s.b / 1 % 256 by rw [Int.ediv_one])
    | 2, _ => exact (show s.c % 256 = s.c / 1 % 256 by rw [Int.ediv_one])
    | 3, _ => exact (show s.d % 256 = s.d / 1 % 256 by rw [Int.ediv_one])
    | 4, _ => exact (show s.e % 256 = s.e / 1 % 256 by rw [Int.ediv_one])
    | 5, _ => exact (show s.f % 256 = s.f / 1 % 256 by rw [Int.ediv_one])
    | 6, _ => exact (show s.g % 256 = s.g / 1 % 256 by rw [Int.ediv_one])
    | 7, _ => exact (show s.h % 256 = s.h / 1 % 256 by rw [Int.ediv_one])
theorem bytes_step (s : St) (k : Nat) (h : k < 32) : s.bytes.take (k + 1) = s.bytes.take k ++ [s.bytes.getD k 0] := by
  rw [List.take_succ_eq_append_getElem (by rw [bytes_len]; exact h), List.getD_eq_getElem?_getD, List.getElem?_eq_getElem (by rw [bytes_len]; exact h)]
  rfl
theorem be32_bytes (n : Int) : Bytes (be32 n) := by
  intro x hx
  simp [be32] at hx
  omega
theorem bytes_bytes (s : St) : Bytes s.bytes :=
  (((((((be32_bytes _).append (be32_bytes _)).append (be32_bytes _)).append (be32_bytes _)).append (be32_bytes _)).append (be32_bytes _)).append (be32_bytes _)).append (be32_bytes _)
theorem info77 : (Tryd.prog.info? 145).map (·.size) = some 73 := by kernel_rfl
theorem info68 : (Tryd.prog.info? 142).map (·.size) = some 8 := by kernel_rfl
theorem info25 : (Tryd.prog.info? 95).map (·.size) = some 32 := by kernel_rfl
theorem cells25 {l : List Int} (h : l.length = 32) : (Tryd.prog.info? 95).map (·.size) = some (kv .u8 l).toArray.size := by rw [info25, kv_size, h]
theorem hash_all (sl rest : List Int) (n : Int) : (hashCells sl rest n).toArray.all (·.oneCell') = true := Array.all_eq_true_iff_forall_mem.2 fun v hv => by
  have hv : v ∈ hashCells sl rest n := by simpa using hv
  unfold hashCells at hv
  rcases List.mem_append.1 hv with hv | hv
  · obtain ⟨x, _, rfl⟩ := List.mem_map.1 hv; rfl
  · rcases List.mem_append.1 hv with hv | hv
    · obtain ⟨x, _, rfl⟩ := List.mem_map.1 hv; rfl
    · simp at hv; subst hv; rfl
abbrev z25 : Obj := .cells (kv .u8 (fill 32 [])).toArray 95
/-- The numbers of a state, as the cells of an array. -/
abbrev stv (s : St) : List Value := [.int .u32 s.a, .int .u32 s.b, .int .u32 s.c, .int .u32 s.d, .int .u32 s.e, .int .u32 s.f, .int .u32 s.g, .int .u32 s.h]
theorem calls_world {P : Program} {f : FuncId} {args : Array Value} {w : World} {R : Ending → World → Prop} (F : World → Prop) (hF : F w) (h : ∀ w2, F w2 → Calls P f args w2 R) : Calls P f args w R := h w hF
theorem pad_state {w : World} {b : Nat} {l : List Int} (h : HashIs w b (pad l)) : w.rangeAt b 0 (stv (sumSt l)) := by
  obtain ⟨rest, h1, h2, h3, h4⟩ := h
  intro j v hv
  rw [h4.cell, Nat.zero_add]
  have hj : j < 8 := (List.getElem?_eq_some_iff.1 hv).1
  have e : (pad l).length / 64 = blocks l.length := by rw [pad_len]; omega
  rw [e] at h4 ⊢
  have h5 : stv (sumSt l) = kv .u32 (absorb (pad l) (blocks l.length)).list := rfl
  rw [h5] at hv
  unfold hashCells
  rw [List.getElem?_toArray, List.getElem?_append_left (by rw [List.length_map, list_len]; exact hj)]
  exact hv
set_option maxRecDepth 100000 in
set_option maxHeartbeats 1000000 in
theorem hsum_any (b : Nat) (l : List Int) (w : World) (hk : KonIs w) (_h0 : 0 < b) (hH : HashIs w b l) (hlen : l.length ≤ 999999999999000) :
    Calls Tryd.prog 70 #[.pointer (some ⟨b, 0, none⟩)] w fun r w' => r = .returned (.agg (kv .u8 (digest l)).toArray) ∧ Below w.heap.size w w' := by
  have HK := Lib.hid hk
  have HL := Lib.hid hlen
  have HLt := Lib.hid hH.lt
  obtain ⟨rest, hr1, hr2, hr3, hB⟩ := hH
  have HR1 := Lib.hid hr1
  have HR2 := Lib.hid hr2
  have HR3 := Lib.hid hr3
  have HB := Lib.hid hB
  have HC := Kp.mk (info77.trans (congrArg some (hash_size (n := (l.length : Int)) (list_len (absorb l (l.length / 64))) hr1).symm))
  have HZ : Kp (Tryd.zeroCells145.size = (hashCells (absorb l (l.length / 64)).list rest l.length).toArray.size) := ⟨by rw [hash_size (list_len _) hr1]; kernel_rfl⟩
  clear hk hlen hr1 hr2 hr3 hB
  obtain ⟨C, hC⟩ : ∃ C, C = (hashCells (absorb l (l.length / 64)).list rest l.length).toArray := ⟨_, rfl⟩
  have HCd := Kp.mk hC
  have HA : Kp (C.all (·.oneCell') = true) := ⟨by rw [hC]; exact hash_all _ _ _⟩
  have HB' : Hid (Blk w b (.cells C 145)) := by rw [hC]; exact HB.out
  rw [← hC] at HC HZ
  clear hC HB
  go_enter Tryd.func70, Tryd.ntmps70
  go_wp2_with (first
    | (refine wpList_load_row rfl 145 (.tmp 12) rfl b rfl 145 C (0, 0) _ (Blk.old HB'.out _) Tryd.underlying145 rfl HC.out ?_)
    | (refine wpList_store_row rfl 145 (.tmp 3) (.tmp 13) rfl (w.heap.size + 1) C rfl rfl 145 Tryd.zeroCells145 (Blk.newAt _ (by simp)) HC.out HZ.out HA.out ?_))
  refine calls_world (fun W => HashIs W (w.heap.size + 1) l ∧ Row W w.heap.size 95 .u8 (fill 32 []) ∧ Below w.heap.size w W)
    ⟨⟨rest, HR1.out, HR2.out, HR3.out, by have h := Blk.setRow (Blk.newAt (w := w.alloc z25) (b := w.heap.size + 1) (.cells Tryd.zeroCells145 145) (by simp)) C; rw [HCd.out] at h ⊢; exact h⟩,
      Row.otherRow (Row.alloc (Blk.newAt (w := w) z25 rfl) _) (by omega) _, Below.row (more (more (Below.refl _ _) z25) _) (by omega) _⟩ ?_
  rintro w2 ⟨hh, hr, hb⟩
  have HRo := Kp.mk hr
  have HBe := Kp.mk hb
  refine (end_any (w.heap.size + 1) l w2 (HK.out.keep hb) (by omega) hh HL.out).mono ?_
  rintro r w5 ⟨rfl, h5⟩
  have HR5 : Kp (Row w5 w.heap.size 95 .u8 (fill 32 [])) := by
    obtain ⟨rest', _, _, _, q4⟩ := h5
    exact ⟨q4.keep hr (by omega)⟩
  have HB5 : Kp (Below w.heap.size w w5) := by
    obtain ⟨rest', _, _, _, q4⟩ := h5
    exact ⟨hb.trans (q4.below (by omega) hb.size)⟩
  have HS5 := Kp.mk (pad_state h5.is)
  have HI5 := Kp.mk h5.is
  have H68 : Kp ((Tryd.prog.info? 142).map (·.size) = some (stv (sumSt l)).length) := ⟨info68⟩
  clear hh hr hb h5 HRo HBe
  go_wp2_with (refine wpList_load_mid rfl 142 (.tmp 15) rfl (w.heap.size + 1) 0 rfl (stv (sumSt l)) _ (fun j v hv => (Blk.cell (Blk.old (HI5.out.choose_spec.2.2.2) _) _).trans ((Blk.cell (HI5.out.choose_spec.2.2.2) _).symm.trans (HS5.out j v hv))) Tryd.underlying142 rfl H68.out ?_)
  obtain ⟨A, hA⟩ : ∃ A, A = w.heap.size := ⟨_, rfl⟩
  obtain ⟨D, hD⟩ : ∃ D, D = w5.heap.size := ⟨_, rfl⟩
  have hAD : A < D := by have h1 := HI5.out.choose_spec.2.2.2.lt; omega
  rw [← hA, ← hD]
  have HAe := Kp.mk hA
  refine wp_world (fun W => Row W D 95 .u8 (fill 32 ((sumSt l).bytes.take (4 * 0))) ∧ Row W A 95 .u8 (fill 32 []) ∧ Below A w W) ⟨by rw [hD]; exact Blk.new w5 z25, by rw [hA]; exact HR5.out.alloc _, by rw [hA]; exact (HB5.out.alloc HB5.out.size _)⟩ ?_
  rintro w6 ⟨h1, h2, h3⟩
  have H1 := Kp.mk h1
  have H2 := Kp.mk h2
  have H3 := Kp.mk h3
  have HD32 : Kp ((sumSt l).bytes = digest l) := ⟨rfl⟩
  clear h1 h2 h3 hA hD HR5 HB5 HS5 HI5 H68
  generalize sumSt l = S at *
  go_loopw [17] (fun c wr => ∃ i : Nat, i ≤ 8 ∧ c = .int .i64 i ∧ Row wr D 95 .u8 (fill 32 (S.bytes.take (4 * i))) ∧ Row wr A 95 .u8 (fill 32 []) ∧ Below A w wr) (fun c _ => 8 - (intOf c).toNat)
  case atStart => exact ⟨0, by omega, rfl, H1.out, H2.out, H3.out⟩
  case round =>
    obtain ⟨i, hi, rfl, h1, h2, h3⟩ := hrel
    have G1 := Kp.mk h1
    have G2 := Kp.mk h2
    have G3 := Kp.mk h3
    clear h1 h2 h3 H1 H2 H3
    by_cases hlt : i < 8
    · have hidx := index68 S i hlt
      generalize hx : S.list.getD i 0 = x at *
      have HX := Kp.mk hx
      clear hx
      go_wp2_with fail
      clear hidx
      go_loopw [21] (fun c wq => ∃ j : Nat, j ≤ 4 ∧ c = .int .i64 j ∧ Row wq D 95 .u8 (fill 32 (S.bytes.take (4 * i + j))) ∧ Row wq A 95 .u8 (fill 32 []) ∧ Below A w wq) (fun c _ => 4 - (intOf c).toNat)
      case atStart => exact ⟨0, by omega, rfl, G1.out, G2.out, G3.out⟩
      case round =>
        obtain ⟨j, hj, rfl, h1, h2, h3⟩ := hrel
        have F1 := Kp.mk h1
        have F2 := Kp.mk h2
        have F3 := Kp.mk h3
        clear h1 h2 h3 G1 G2 G3
        by_cases hlj : j < 4
        · have hl : (S.bytes.take (4 * i + j)).length = 4 * i + j := by rw [List.length_take, bytes_len]; omega
          have cw := F1.out.cell (i := 4 * i + j) (by rw [fill_len (by omega)]; omega)
          have fw := F1.out.frozen (4 * i + j)
          have HL2 := Kp.mk hl
          clear hl
          go_wp2_with fail
          refine ⟨⟨j + 1, by omega, by go_num, ?_, F2.out.other (by show D ≠ A; omega) _, F3.out.setCell (by show A ≤ D; omega) _⟩, by simp [intOf]; omega⟩
          refine (F1.out.set (4 * i + j) _).as ?_
          rw [← Nat.add_assoc, bytes_step S (4 * i + j) (by omega), bytes_get S i j hlt hlj, HX.out, ← fill_set (by rw [HL2.out]; omega), HL2.out]
        · have HJ : Kp (j = 4) := ⟨by omega⟩
          have hge : 4 ≤ (j : Int) := by omega
          clear hlj hj
          go_wp2_with fail
          refine ⟨⟨i + 1, by omega, by go_num, ?_, F2.out, F3.out⟩, by simp [intOf]; omega⟩
          have h := F1.out
          rw [HJ.out] at h
          exact h
    · have HI : Kp (i = 8) := ⟨by omega⟩
      have hge : 8 ≤ (i : Int) := by omega
      have HR : Kp (Row wr D 95 .u8 (digest l)) := by
        have h := G1.out
        rw [HI.out, List.take_of_length_le (by rw [bytes_len]; omega), fill_full (bytes_len S), HD32.out] at h
        exact ⟨h⟩
      have HC25 := Kp.mk (cells25 (digest_len l))
      have HZ25 : Kp ((kv .u8 (fill 32 [])).toArray.size = (kv .u8 (digest l)).toArray.size) := ⟨by rw [kv_size, kv_size, digest_len]; rfl⟩
      have HF := Kp.mk (G2.out.setRow (digest l))
      have HBf := Kp.mk (Below.row G3.out (g := A) (Nat.le_refl _) (kv .u8 (digest l)).toArray)
      clear hlt hi G1
      go_wp2_with (first
        | (refine wpList_load_row rfl 95 (.tmp 4) rfl D rfl 95 (kv .u8 (digest l)).toArray (0, 0) _ HR.out Tryd.underlying95 rfl HC25.out ?_)
        | (refine wpList_store_row rfl 95 (.tmp 2) (.tmp 37) rfl A (kv .u8 (digest l)).toArray rfl rfl 95 _ G2.out HC25.out HZ25.out (kv_all _ _) ?_))
      refine bodyPost_ret (v := .agg (kv .u8 (digest l)).toArray) ?_ rfl ⟨rfl, by rw [← HAe.out]; exact HBf.out⟩
      exact results_cell_row rfl _ _ A 95 _ (0, 0) _ rfl HF.out Tryd.underlying95 rfl HC25.out
theorem HoldsB.own {w : World} {M : Nat} {v : Value} {l : List Int} (h : HoldsB w M v l) : HoldsB w w.heap.size v l := by
  obtain ⟨a, cap, h1, h2, h3, h4, h5, h6, h7⟩ := h
  exact ⟨a, cap, h1, h2, h3, h4, fun x hx h0 => ⟨(h5 x hx h0).1, (h5 x hx h0).2.2, (h5 x hx h0).2.2⟩, h6, h7⟩
/-- Bytes that were there ahead of block b. -/
theorem HoldsB.apart {w w' : World} {M b : Nat} {v : Value} {l : List Int} (h : HoldsB w M v l) (hb : Below w.heap.size w w') (hle : w.heap.size ≤ b) : HoldsX w' b v l := by
  refine ⟨(h.own.keep hb).mono hb.size, ?_⟩
  obtain ⟨a, cap, rfl, h2, h3, h4, h5, h6, h7⟩ := h
  intro x n c he h0
  simp only [Value.slice.injEq] at he
  have := (h5 x he.1 (by omega)).2.2
  show x.block ≠ b
  omega
set_option maxRecDepth 100000 in
set_option maxHeartbeats 400000 in
/-- sha.Sum. -/
theorem sum_any (M : Nat) (v : Value) (p : List Int) (w : World) (hk : KonIs w) (hp : HoldsB w M v p) (hlen : p.length ≤ 999999999999000) :
    Calls Tryd.prog 109 #[v] w fun r w' => r = .returned (.agg (kv .u8 (digest p)).toArray) ∧ Below w.heap.size w w' := by
  have HK := Kp.mk hk
  have HP := Kp.mk hp
  have HL := Kp.mk hlen
  have HC25 := Kp.mk (cells25 (digest_len p))
  have HZ25 : Kp ((kv .u8 (fill 32 [])).toArray.size = (kv .u8 (digest p)).toArray.size) := ⟨by rw [kv_size, kv_size, digest_len]; rfl⟩
  have hpos := hk.pos
  have HPo := Kp.mk hpos
  clear hk hp hlen hpos
  go_enter Tryd.func109, Tryd.ntmps109
  go_wp2_with fail
  refine calls_world (fun W => Row W w.heap.size 95 .u8 (fill 32 []) ∧ Below w.heap.size w W ∧ w.heap.size < W.heap.size) ⟨Blk.newAt (w := w) z25 rfl, more (Below.refl _ _) z25, by simp⟩ ?_
  rintro w1 ⟨hr, hb, hs⟩
  have HR := Kp.mk hr
  have HB := Kp.mk hb
  have HS := Kp.mk hs
  clear hr hb hs
  refine (new_any w1).mono ?_
  rintro r w2 ⟨rfl, hh, hb⟩
  have HH := Kp.mk hh
  have HB2 := Kp.mk hb
  have HX : Kp (HoldsX w2 w1.heap.size v p) := ⟨HP.out.apart (HB.out.trans (hb.mono HB.out.size)) HB.out.size⟩
  clear hh hb
  go_wp2_with fail
  refine (write_any w1.heap.size [] p v w2 ((HK.out.keep HB.out).keep HB2.out) (by have := HS.out; omega) HH.out HX.out (by have := HL.out; simp; omega)).mono ?_
  rintro r w3 ⟨rfl, h3⟩
  have H3 := Kp.mk h3
  have HT3 : Kp (Below w1.heap.size w1 w3) := by
    obtain ⟨_, _, _, _, q⟩ := h3
    exact ⟨HB2.out.trans (q.below (Nat.le_refl _) HB2.out.size)⟩
  clear h3
  go_wp2_with fail
  refine (hsum_any w1.heap.size p w3 ((HK.out.keep HB.out).keep HT3.out) (by have := HS.out; omega) H3.out.is HL.out).mono ?_
  rintro r w4 ⟨rfl, h4⟩
  have HB4 : Kp (Below w1.heap.size w1 w4) := ⟨HT3.out.trans (h4.mono HT3.out.size)⟩
  have HR4 := Kp.mk (HR.out.keep HB4.out)
  have HF := Kp.mk (HR4.out.setRow (digest p))
  have HBf := Kp.mk (Below.row (HB.out.trans (HB4.out.mono HB.out.size)) (g := w.heap.size) (Nat.le_refl _) (kv .u8 (digest p)).toArray)
  clear h4
  go_wp2_with (refine wpList_store_row rfl 95 (.tmp 2) (.tmp 9) rfl w.heap.size (kv .u8 (digest p)).toArray rfl rfl 95 _ HR4.out HC25.out HZ25.out (kv_all _ _) ?_)
  refine bodyPost_ret (v := .agg (kv .u8 (digest p)).toArray) ?_ rfl ⟨rfl, HBf.out⟩
  exact results_cell_row rfl _ _ w.heap.size 95 _ (0, 0) _ rfl HF.out Tryd.underlying95 rfl HC25.out
end Go.Proofs.YtpljjmdkagbjpaaDoor



namespace Go.Proofs.YtpljjmdkagbjpaaDoor
open Go.RowKit

set_option maxRecDepth 100000 in
theorem slice25_all (b : Nat) (w : World) : (Instr.sliceAt 95 (.pointer (some ⟨b, 0, none⟩)) none none none).run Tryd.prog w = .ok (.slice (some ⟨b, 0, none⟩) 32 32) w := by
  have hl : Tryd.prog.arrayLen 95 = 32 := by kernel_rfl
  have he : Tryd.prog.elem 95 = 5 := by kernel_rfl
  rw [run_sliceAt_array_all (ht := Tryd.underlying95), hl, he, size5]
  rfl
theorem digest_bytes (l : List Int) : Bytes (digest l) := bytes_bytes _
theorem HoldsB.ofBytes {w : World} {b : Nat} {l : List Int} {t : TypeId} (h : Row w b t .u8 l) (hb : Bytes l) (hm : l.length ≤ maxLen) : HoldsB w w.heap.size (.slice (some ⟨b, 0, none⟩) l.length l.length) l :=
  HoldsB.ofRow2 (off := 0) h rfl (Nat.le_refl _) hm (fun i hi => by simp [List.getElem?_eq_getElem hi, List.getD_eq_getElem?_getD]) hb
end Go.Proofs.YtpljjmdkagbjpaaDoor

namespace Go.Proofs.YtpljjmdkagbjpaaDoor
open Go.RowKit

/-- A key's block. -/
def keyb (k : List Int) : List Int := fill 64 (if 64 < k.length then digest k else k)
theorem keyb_len (k : List Int) : (keyb k).length = 64 := by
  unfold keyb
  split
  · rw [fill_len (by rw [digest_len]; omega)]
  · rw [fill_len (by omega)]
theorem fill_bytes {n : Nat} {l : List Int} (h : Bytes l) : Bytes (fill n l) := h.append (zeros_bytes _)
theorem keyb_bytes {k : List Int} (h : Bytes k) : Bytes (keyb k) := by
  unfold keyb
  split
  · exact fill_bytes (digest_bytes _)
  · exact fill_bytes h
/-- Each byte laid over with x. -/
def over (l : List Int) (x : Int) : List Int := l.map fun b => bits .xor .u8 b x
theorem over_len (l : List Int) (x : Int) : (over l x).length = l.length := by simp [over]
theorem bits_u8r (op : BinOp) (x y : Int) : 0 ≤ bits op .u8 x y ∧ bits op .u8 x y ≤ 255 := by
  unfold bits
  simp only [IntKind.wrap_u8']
  omega
theorem over_bytes (l : List Int) (x : Int) : Bytes (over l x) := by
  intro y hy
  unfold over at hy
  obtain ⟨b, _, rfl⟩ := List.mem_map.1 hy
  exact bits_u8r _ _ _
/-- A message's tag by a key. -/
def macL (k p : List Int) : List Int := digest (over (keyb k) 92 ++ digest (over (keyb k) 54 ++ p))
theorem info75 : (Tryd.prog.info? 143).map (·.size) = some 64 := by kernel_rfl
theorem cells75 {l : List Int} (h : l.length = 64) : (Tryd.prog.info? 143).map (·.size) = some (kv .u8 l).toArray.size := by rw [info75, kv_size, h]
abbrev z75 : Obj := .cells (kv .u8 (fill 64 [])).toArray 143
theorem size75 {l : List Int} (h : l.length = 64) : (kv .u8 (fill 64 [])).toArray.size = (kv .u8 l).toArray.size := by rw [kv_size, kv_size, h]; rfl
set_option maxRecDepth 100000 in
theorem slice75_whole (b : Nat) (w : World) : (Instr.sliceAt 143 (.pointer (some ⟨b, 0, none⟩)) none none none).run Tryd.prog w = .ok (.slice (some ⟨b, 0, none⟩) 64 64) w := by
  have hl : Tryd.prog.arrayLen 143 = 64 := by kernel_rfl
  have he : Tryd.prog.elem 143 = 5 := by kernel_rfl
  rw [run_sliceAt_array_all (ht := Tryd.underlying143), hl, he, size5]
  rfl
/-- l with its first k numbers laid over. -/
def ovr (l : List Int) (x : Int) (k : Nat) : List Int := (over l x).take k ++ l.drop k
theorem ovr_len (l : List Int) (x : Int) (k : Nat) (h : k ≤ l.length) : (ovr l x k).length = l.length := by simp [ovr, over_len]; omega
theorem ovr_get (l : List Int) (x : Int) (k : Nat) (h : k < l.length) : (ovr l x k).getD k 0 = l.getD k 0 := by
  unfold ovr
  rw [List.getD_eq_getElem?_getD, List.getElem?_append_right (by rw [List.length_take, over_len]; omega), List.length_take, over_len, Nat.min_eq_left (Nat.le_of_lt h), Nat.sub_self, List.getElem?_drop, Nat.add_zero, ← List.getD_eq_getElem?_getD]
theorem ovr_set (l : List Int) (x : Int) (k : Nat) (h : k < l.length) : (ovr l x k).set k (bits .xor .u8 (l.getD k 0) x) = ovr l x (k + 1) := by
  unfold ovr
  have e1 : ((over l x).take k).length = k := by rw [List.length_take, over_len]; omega
  rw [List.set_append_right _ _ (by omega), e1, Nat.sub_self]
  have e2 : l.drop k = l.getD k 0 :: l.drop (k + 1) := by
    rw [List.drop_eq_getElem_cons h, List.getD_eq_getElem?_getD, List.getElem?_eq_getElem h]
    rfl
  have e3 : (over l x).take (k + 1) = (over l x).take k ++ [bits .xor .u8 (l.getD k 0) x] := by
    rw [List.take_succ_eq_append_getElem (by rw [over_len]; exact h), List.getD_eq_getElem?_getD, List.getElem?_eq_getElem h]
    simp [over]
  rw [e2, List.set_cons_zero, e3, List.append_assoc]
  rfl
theorem ovr_zero (l : List Int) (x : Int) : ovr l x 0 = l := by simp [ovr]
theorem ovr_full (l : List Int) (x : Int) : ovr l x l.length = over l x := by
  unfold ovr
  rw [List.take_of_length_le (by rw [over_len]; exact Nat.le_refl _), List.drop_of_length_le (Nat.le_refl _), List.append_nil]
set_option maxRecDepth 100000 in
set_option maxHeartbeats 1000000 in
theorem overlaid_any (l : List Int) (x : Int) (w : World) (hl : l.length = 64) :
    Calls Tryd.prog 108 #[.agg (kv .u8 l).toArray, .int .u8 x] w fun r w' => r = .returned (.slice (some ⟨w.heap.size, 0, none⟩) 64 64) ∧ HoldsB w' w'.heap.size (.slice (some ⟨w.heap.size, 0, none⟩) 64 64) (over l x) ∧ Below w.heap.size w w' := by
  have HL := Kp.mk hl
  have hs := slice75_whole w.heap.size
  clear hl
  go_enter Tryd.func108, Tryd.ntmps108
  go_wp2_with fail
  obtain ⟨A, hA⟩ : ∃ A, A = w.heap.size := ⟨_, rfl⟩
  rw [← hA] at hs ⊢
  have HA := Kp.mk hA
  go_loopw [6] (fun c wr => ∃ k : Nat, k ≤ 64 ∧ c = .int .i64 k ∧ Row wr A 143 .u8 (ovr l x k) ∧ Below A w wr) (fun c _ => 64 - (intOf c).toNat)
  case atStart => exact ⟨0, by omega, rfl, by rw [ovr_zero]; exact Blk.newAt _ hA, by rw [hA]; exact more (Below.refl _ _) _⟩
  case round =>
    obtain ⟨k, hk, rfl, h1, h2⟩ := hrel
    have G1 := Kp.mk h1
    have G2 := Kp.mk h2
    clear h1 h2 hA
    by_cases hlt : k < 64
    · have cw : wr.cell? ⟨A, k, none⟩ = some (.int .u8 (l.getD k 0)) := by rw [G1.out.cell (by rw [ovr_len _ _ _ (by rw [HL.out]; exact hk), HL.out]; exact hlt), ovr_get _ _ _ (by rw [HL.out]; exact hlt)]
      have fw := G1.out.frozen k
      have HS := Kp.mk (ovr_set l x k (by rw [HL.out]; exact hlt))
      generalize l.getD k 0 = y at *
      go_wp2_with fail
      refine ⟨⟨k + 1, by omega, by go_num, (G1.out.set k _).as HS.out, G2.out.setCell (Nat.le_refl _) _⟩, by simp [intOf]; omega⟩
    · have HK : Kp (k = 64) := ⟨by omega⟩
      have hge : 64 ≤ (k : Int) := by omega
      have HF : Kp (Row wr A 143 .u8 (over l x)) := by
        have h := G1.out
        rw [HK.out, ← HL.out, ovr_full] at h
        exact ⟨h⟩
      clear hlt hk G1
      go_wp2_with fail
      go_ret
      rw [← HA.out]
      refine ⟨rfl, ?_, G2.out⟩
      have h := HoldsB.ofBytes HF.out (over_bytes l x) (by rw [over_len, HL.out]; unfold maxLen; omega)
      rw [over_len, HL.out] at h
      exact h
end Go.Proofs.YtpljjmdkagbjpaaDoor

namespace Go.Proofs.YtpljjmdkagbjpaaDoor
open Go.RowKit

set_option maxRecDepth 100000 in
set_option maxHeartbeats 1000000 in
theorem msum_any (M N : Nat) (v u : Value) (p q : List Int) (w : World) (hk : KonIs w) (hp : HoldsB w M v p) (hq : HoldsB w N u q) (hlen : p.length + q.length ≤ 999999999999000) :
    Calls Tryd.prog 107 #[v, u] w fun r w' => r = .returned (.agg (kv .u8 (digest (p ++ q))).toArray) ∧ Below w.heap.size w w' := by
  have HK := Kp.mk hk
  have HP := Kp.mk hp
  have HQ := Kp.mk hq
  have HL := Kp.mk hlen
  have HC25 := Kp.mk (cells25 (digest_len (p ++ q)))
  have HZ25 : Kp ((kv .u8 (fill 32 [])).toArray.size = (kv .u8 (digest (p ++ q))).toArray.size) := ⟨by rw [kv_size, kv_size, digest_len]; rfl⟩
  have hpos := hk.pos
  have HPo := Kp.mk hpos
  clear hk hp hq hlen hpos
  go_enter Tryd.func107, Tryd.ntmps107
  go_wp2_with fail
  refine calls_world (fun W => Row W w.heap.size 95 .u8 (fill 32 []) ∧ Below w.heap.size w W ∧ w.heap.size < W.heap.size) ⟨Blk.newAt (w := w) z25 rfl, more (Below.refl _ _) z25, by simp⟩ ?_
  rintro w1 ⟨hr, hb, hs⟩
  have HR := Kp.mk hr
  have HB := Kp.mk hb
  have HS := Kp.mk hs
  clear hr hb hs
  refine (new_any w1).mono ?_
  rintro r w2 ⟨rfl, hh, hb⟩
  have HH := Kp.mk hh
  have HB2 := Kp.mk hb
  have HX : Kp (HoldsX w2 w1.heap.size v p) := ⟨HP.out.apart (HB.out.trans (hb.mono HB.out.size)) HB.out.size⟩
  have HY : Kp (HoldsX w2 w1.heap.size u q) := ⟨HQ.out.apart (HB.out.trans (hb.mono HB.out.size)) HB.out.size⟩
  clear hh hb
  go_wp2_with fail
  refine (write_any w1.heap.size [] p v w2 ((HK.out.keep HB.out).keep HB2.out) (by have := HS.out; omega) HH.out HX.out (by have := HL.out; simp; omega)).mono ?_
  rintro r w3 ⟨rfl, h3⟩
  have H3 := Kp.mk h3
  have HT3 : Kp (Below w1.heap.size w1 w3 ∧ HoldsX w3 w1.heap.size u q) := by
    obtain ⟨_, _, _, _, t⟩ := h3
    exact ⟨HB2.out.trans (t.below (Nat.le_refl _) HB2.out.size), HY.out.turn t⟩
  clear h3
  go_wp2_with fail
  refine (write_any w1.heap.size p q u w3 ((HK.out.keep HB.out).keep HT3.out.1) (by have := HS.out; omega) H3.out.is HT3.out.2 (by have := HL.out; omega)).mono ?_
  rintro r w5 ⟨rfl, h5⟩
  have H5 := Kp.mk h5
  have HT5 : Kp (Below w1.heap.size w1 w5) := by
    obtain ⟨_, _, _, _, t⟩ := h5
    exact ⟨HT3.out.1.trans (t.below (Nat.le_refl _) HT3.out.1.size)⟩
  clear h5
  go_wp2_with fail
  refine (hsum_any w1.heap.size (p ++ q) w5 ((HK.out.keep HB.out).keep HT5.out) (by have := HS.out; omega) H5.out.is (by rw [List.length_append]; exact HL.out)).mono ?_
  rintro r w4 ⟨rfl, h4⟩
  have HB4 : Kp (Below w1.heap.size w1 w4) := ⟨HT5.out.trans (h4.mono HT5.out.size)⟩
  have HR4 := Kp.mk (HR.out.keep HB4.out)
  have HF := Kp.mk (HR4.out.setRow (digest (p ++ q)))
  have HBf := Kp.mk (Below.row (HB.out.trans (HB4.out.mono HB.out.size)) (g := w.heap.size) (Nat.le_refl _) (kv .u8 (digest (p ++ q))).toArray)
  clear h4
  go_wp2_with (refine wpList_store_row rfl 95 (.tmp 4) (.tmp 14) rfl w.heap.size (kv .u8 (digest (p ++ q))).toArray rfl rfl 95 _ HR4.out HC25.out HZ25.out (kv_all _ _) ?_)
  refine bodyPost_ret (v := .agg (kv .u8 (digest (p ++ q))).toArray) ?_ rfl ⟨rfl, HBf.out⟩
  exact results_cell_row rfl _ _ w.heap.size 95 _ (0, 0) _ rfl HF.out Tryd.underlying95 rfl HC25.out
end Go.Proofs.YtpljjmdkagbjpaaDoor
