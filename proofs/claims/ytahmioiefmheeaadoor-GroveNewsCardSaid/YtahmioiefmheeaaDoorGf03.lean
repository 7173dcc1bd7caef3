/-
  (*sha.Hash).end: what stands behind the last byte is taken in. (*sha.Hash).Blocks.
  The document's Pad.
  A row of rows of bytes that came in.
  Rows and hashes behind what leaves all below as it was; append to a literal.
  (*strings.Builder).WriteByte, of a builder that has grown.
  DERIVED: THE SHELF's CONTRACTS AT THIS DUMP, IN PLAIN WORDS (tools/lay-plain.mjs out of 'YtahmioiefmheeaaDoorShelf.lean', which tools/lay-shelf.mjs wrote): THE SAME DECLARATIONS UNDER THE SAME NAMES: 'import', 'namespace', 'open', 'def', 'theorem' AND NOTHING ELSE: no command of the shelf's: FOR A HAND-IN. Each laying: the table of numbers ('.._ren') and one theorem, a field a fact of the dump's own or the kernel's comparison; each contract: ONE APPLICATION.
  sha.Hex.
-/
import Derived.Test.YtahmioiefmheeaaDoorGf02
import Derived.Laws.OwnMore
import Derived.Lib.Builder
import Derived.Shelf.Strings.Builder1
import Derived.Shelf.Strings.Builder2
import Derived.Shelf.Small.Strs
import Derived.Shelf.Strings.BuilderF
import Derived.Shelf.Strings.BuilderK
import Derived.Shelf.Strings.Search1
import Derived.Test.YtahmioiefmheeaaDoorProg
namespace Go.Proofs.YtahmioiefmheeaaDoor
open Go.RowKit

/-- The bytes behind a text of n bytes, but for the last of the length's. -/
def tl (n k : Nat) : List Int := [128] ++ List.replicate (zeros n) 0 ++ (be64 (8 * (n : Int) % 18446744073709551616)).take k
theorem be64_len (n : Int) : (be64 n).length = 8 := by simp [be64]
theorem tl_len (n k : Nat) (h : k ≤ 8) : (tl n k).length = zeros n + 1 + k := by simp [tl, be64_len]; omega
theorem tl_full (n : Nat) : tl n 8 = tail n := by unfold tl tail; rw [List.take_of_length_le (by rw [be64_len]; omega)]
theorem be64_get (n : Int) (j : Nat) (h : j < 8) : (be64 n).getD j 0 = n / 2 ^ (56 - 8 * j) % 256 := by
  match j, h with
  | 0, _ => rfl
  | 1, _ => rfl
  | 2, _ => rfl
  | 3, _ => rfl
  | 4, _ => rfl
  | 5, _ => rfl
  | 6, _ => rfl
  | 7, _ => rfl
theorem tl_succ (n k : Nat) (h : k < 8) : tl n (k + 1) = tl n k ++ [(8 * (n : Int) % 18446744073709551616) / 2 ^ (56 - 8 * k) % 256] := by
  unfold tl
  rw [← be64_get _ k h, List.take_succ_eq_append_getElem (by rw [be64_len]; exact h), List.append_assoc, List.getD_eq_getElem?_getD, List.getElem?_eq_getElem (by rw [be64_len]; exact h)]
  simp
theorem tl_bytes (n k : Nat) : Bytes (tl n k) := by
  intro x hx
  unfold tl at hx
  rcases List.mem_append.1 hx with hx | hx
  · rcases List.mem_append.1 hx with hx | hx
    · simp at hx; omega
    · have := List.eq_of_mem_replicate hx; omega
  · have := List.mem_of_mem_take hx
    unfold be64 at this
    obtain ⟨i, _, rfl⟩ := List.mem_map.1 this
    omega
theorem tl_zero (n : Nat) : fill 128 (tl n 0) = (fill 128 []).set 0 128 := by
  have hz : zeros n ≤ 63 := by unfold zeros; omega
  unfold fill tl
  simp only [List.take_zero, List.append_nil, List.length_append, List.length_cons, List.length_nil, List.length_replicate, List.nil_append, Nat.sub_zero]
  rw [List.append_assoc, List.replicate_append_replicate, show zeros n + (128 - (0 + 1 + zeros n)) = 127 by omega]
  rfl
theorem zeros_blocks (n : Nat) : 64 * blocks n = n + zeros n + 9 := by
  unfold blocks zeros
  split <;> omega
set_option maxRecDepth 100000 in
theorem slice99 (t k : Nat) (h : k ≤ 128) (w : World) : (Instr.sliceAt 164 (.pointer (some ⟨t, 0, none⟩)) none (some (.int .i64 k)) none).run Tryd.prog w = .ok (.slice (some ⟨t, 0, none⟩) k 128) w := by
  have hl : Tryd.prog.arrayLen 164 = 128 := by kernel_rfl
  have he : Tryd.prog.elem 164 = 5 := by kernel_rfl
  rw [run_sliceAt_array_h (ht := Tryd.underlying164) (h0 := by omega) (h2 := by rw [hl]; omega), hl, he, size5]
  simp only [Result.andThen, slicedAt, Int.toNat_natCast, Nat.mul_one]
  rw [if_neg (by omega)]
  have e : (⟨t, 0, none⟩ : Addr).add 0 = ⟨t, 0, none⟩ := by unfold Addr.add; split <;> simp_all
  rw [e]
  rfl
set_option maxRecDepth 100000 in
set_option maxHeartbeats 1000000 in
theorem end_any (b : Nat) (l : List Int) (w : World) (hk : KonIs w) (h0 : 0 < b) (hH : HashIs w b l) (hlen : l.length ≤ 999999999999000) :
    Calls Tryd.prog 111 #[.pointer (some ⟨b, 0, none⟩)] w fun r w' => r = .returned (.tuple #[]) ∧ HashTurn b (pad l) w w' := by
  have hH' := hH
  obtain ⟨rest, hr1, hr2, hr3, hB⟩ := hH'
  obtain ⟨n, hn0⟩ : ∃ n, n = l.length := ⟨_, rfl⟩
  rw [← hn0] at hB hr3 hlen
  have c72 : w.cell? ⟨b, 72, none⟩ = some (.int .i64 n) := by rw [hB.cell, hash_taken (list_len _) hr1]
  obtain ⟨B, hBl⟩ : ∃ B, B = blocks n := ⟨_, rfl⟩
  obtain ⟨z, hz⟩ : ∃ z, z = zeros n := ⟨_, rfl⟩
  have hbz := zeros_blocks n
  rw [← hBl, ← hz] at hbz
  have hz63 : z ≤ 63 := by rw [hz]; unfold zeros; omega
  have ebl := blkI_nat n
  rw [← hBl] at ebl
  have HEB := Lib.hid ebl
  have HK := Lib.hid hk
  have HH := Lib.hid hH
  have HN0 := Lib.hid hn0
  have HH0 := Lib.hid h0
  have HBZ := Lib.hid hbz
  have HZ := Lib.hid hz
  have HLt : Hid (b < w.heap.size) := hB.lt
  have bB : (B : Int) ≤ 1000000000000000 := by omega
  have bn : n ≤ 999999999999000 := hlen
  have hsz : 64 * (B : Int) - n = (z : Int) + 9 := by omega
  have HSZ := Lib.hid hsz
  clear hk hH hn0 h0 hB hr1 hr2 hr3 hBl hz hbz ebl hlen hsz
  have CB : Kp (∀ w, Calls Tryd.prog 58 #[.int .i64 n] w fun r w' => r = .returned (.int .i64 B) ∧ w' = w) := ⟨fun w => by have := blocks_any n w (by omega); rw [HEB.out] at this; exact this⟩
  have h8n : 8 * (n : Int) % 18446744073709551616 = (n : Int) * 8 := by omega
  have H8 := Kp.mk h8n
  clear h8n
  go_enter Tryd.func111, Tryd.ntmps111
  go_wp2_with fail
  refine wp_world (fun W => Row W w.heap.size 164 .u8 (fill 128 []) ∧ Below w.heap.size w W) ⟨Blk.newAt _ rfl, more (Below.refl _ _) _⟩ ?_
  rintro w2 ⟨hr, hb⟩
  have c72' : w2.cell? ⟨b, 72, none⟩ = some (.int .i64 n) := (World.cell?_of_block (w := w) (a := ⟨b, 72, none⟩) (hb.block b HLt.out)).trans c72
  have HR := Kp.mk hr
  have HB := Kp.mk hb
  clear hr hb c72
  go_quiet ((go_at_call 58; exact Calls.quiet_of_same (CB.out _)))
  have HR2 := Kp.mk (HR.out.drewN nq)
  have HB2 := Kp.mk (below_drewN HB.out nq)
  clear c72' HR HB
  generalize w2.drewN nq = w3 at *
  have cw := HR2.out.cell (i := 0) (by rw [fill_len (by simp)]; omega)
  have fw := HR2.out.frozen 0
  go_wp2_with fail
  have hsz : (B : Int) * 64 - n = (z : Int) + 9 := by have := HSZ.out; omega
  rw [hsz]
  clear hsz cw fw
  generalize hE : (n : Int) * 8 = E
  have e0 : 0 ≤ E := by omega
  have e1 : E ≤ 9000000000000000 := by omega
  have HE := Kp.mk hE
  clear hE
  refine wp_world (fun W => Row W w.heap.size 164 .u8 (fill 128 (tl n 0)) ∧ Below w.heap.size w W) ⟨by rw [tl_zero]; exact HR2.out.set 0 128, HB2.out.setCell (by simp) _⟩ ?_
  rintro w4 ⟨hr, hb⟩
  have HR3 := Kp.mk hr
  have HB3 := Kp.mk hb
  clear hr hb HR2 HB2
  go_loopw [24] (fun c wr => ∃ j : Nat, j ≤ 8 ∧ c = .int .i64 j ∧ Row wr w.heap.size 164 .u8 (fill 128 (tl n j)) ∧ Below w.heap.size w wr) (fun c _ => 8 - (intOf c).toNat)
  case atStart => exact ⟨0, by omega, rfl, HR3.out, HB3.out⟩
  case round =>
    obtain ⟨j, hj, rfl, hr, hb⟩ := hrel
    have HR4 := Kp.mk hr
    have HB4 := Kp.mk hb
    clear hr hb HR3 HB3
    by_cases hlt : j < 8
    · have hpl := tl_len n j hj
      rw [← HZ.out] at hpl
      have HPL := Kp.mk hpl
      have cw := HR4.out.cell (i := z + 1 + j) (by rw [fill_len (by omega)]; omega)
      have fw := HR4.out.frozen (z + 1 + j)
      clear hpl
      go_wp2_with fail
      refine ⟨⟨j + 1, by omega, by go_num, ?_, HB4.out.setCell (by simp) _⟩, by simp [intOf]; omega⟩
      refine (HR4.out.set (z + 1 + j) _).as ?_
      rw [tl_succ n j hlt, ← fill_set (by rw [HPL.out]; omega), HPL.out, H8.out, HE.out]
    · have HJ : Kp (j = 8) := ⟨by omega⟩
      have hge : 8 ≤ (j : Int) := by omega
      have hs := slice99 w.heap.size (z + 9) (by omega)
      rw [show ((z + 9 : Nat) : Int) = (z : Int) + 9 by omega] at hs
      have hl : (tl n 8).length = z + 9 := by rw [tl_len n 8 (by omega), HZ.out]
      have HHX : Kp (HoldsX wr b (.slice (some ⟨w.heap.size, 0, none⟩) (z + 9) 128) (tl n 8)) := by
        have hr := HR4.out
        rw [HJ.out] at hr
        refine ⟨(HoldsB.ofRow2 (off := 0) hr hl.symm (by omega) (by unfold maxLen; omega) (fun i hi => ?_) (tl_bytes n 8)), ?_⟩
        · simp only [Nat.zero_add, List.getElem?_toArray, List.getElem?_map]
          have h1 := fill_get (n := 128) hi
          have h2 : i < (fill 128 (tl n 8)).length := by rw [fill_len (by omega)]; omega
          rw [List.getD_eq_getElem?_getD, List.getElem?_eq_getElem h2] at h1
          rw [List.getElem?_eq_getElem h2, ← h1]
          rfl
        · intro x k c he _
          simp only [Value.slice.injEq, Option.some.injEq] at he
          rw [← he.1]
          have := HLt.out
          show w.heap.size ≠ b
          omega
      have HL := Kp.mk hl
      clear hlt hj hl
      go_wp2_with fail
      refine (write_any b l (tl n 8) _ wr (HK.out.keep HB4.out) HH0.out (HH.out.keep HB4.out) HHX.out (by rw [HL.out, ← HN0.out]; omega)).mono ?_
      rintro r w5 ⟨rfl, h5⟩
      have H5 := Kp.mk h5
      clear h5
      go_wp2_with fail
      go_end0
      obtain ⟨rest', q1, q2, q3, q4⟩ := H5.out
      have e : l ++ tl n 8 = pad l := by unfold pad; rw [tl_full, HN0.out]
      rw [e] at q3 q4
      exact ⟨rfl, rest', q1, q2, q3, Turn.ahead HB4.out q4⟩
end Go.Proofs.YtahmioiefmheeaaDoor

namespace Go.Proofs.YtahmioiefmheeaaDoor
open Go.RowKit

/-- append of bytes that stand somewhere, to a row of the call's own. -/
theorem wpList_append_holds {w : World} {ops : Array Oper} {rest : List Oper} {o : Oper} {a : Act} {Q : Exit → Act → World → Prop} (hgd : o.guard = none) (s x : Operand)
    (ho : o.op = .call { callee := .builtin .append, args := #[s, x], argTypes := #[22, 22] })
    (base : Nat) (v : Value) (n : Nat) (xs : List Value) (hs : a.eval s = v) (hown : w.ownsRow base 5 1 v n xs)
    (M : Nat) (u : Value) (p : List Int) (hx : a.eval x = u) (hp : HoldsB w M u p) (h63 : n + p.length ≤ 140737488355328) (hbase : base ≤ w.heap.size)
    (h : ∀ v' w', w'.ownsRow base 5 1 v' (n + p.length) (xs ++ bv p) → w.grownBy w' v.ownBlock → wpList Tryd.prog ops Q rest (a.put o.dst v') w') : wpList Tryd.prog ops Q (o :: rest) a w := by
  obtain ⟨i0, hi, hz0, hz1, hz2⟩ := info_parts info5
  obtain ⟨ad, m, cap, rfl, hm⟩ := hp.slice
  cases ad with
  | none =>
    obtain ⟨a', cap', h1, h2, h3, h4, h5, h6, h7⟩ := hp
    simp only [Value.slice.injEq] at h1
    have hc := h4 h1.1.symm
    have hl : p = [] := List.length_eq_zero_iff.1 (by omega)
    subst hl
    have hx' : a.eval x = .slice none 0 0 := by rw [hx]; simp only [Value.slice.injEq, true_and]; exact ⟨by simpa using hm, by omega⟩
    exact wpList_append_own_none hgd s x 22 ho base 5 i0 1 Tryd.underlying22 hi v n xs hs hown hx' (h v w (by simpa using hown) ⟨rfl, rfl, rfl, Nat.le_refl _, fun _ _ _ => rfl⟩)
  | some ad =>
    refine wpList_append_own w hgd s x 22 ho base 5 i0 (.int .u8 0) 1 1 Tryd.underlying22 hi hz0 hz1 hz2 rfl (by decide) v n xs hs hown ad m cap (bv p) hx (by rw [bv_len]; omega) hp.news (bv_one _) (by unfold maxLen; omega) (by omega) hbase fun v' w' h1 h2 _ => ?_
    rw [hm] at h1
    exact h v' w' h1 h2
theorem row_slice {w : World} {base n : Nat} {v : Value} {xs : List Value} (h : w.ownsRow base 5 1 v n xs) : ∃ a c, v = .slice a n c := by
  rcases h.2 with ⟨rfl, hn⟩ | ⟨g, cap, cur, rfl, _⟩
  · subst hn; exact ⟨_, _, rfl⟩
  · exact ⟨_, _, rfl⟩
/-- One byte in a new block, as a slice. -/
theorem one_holds (w : World) (x : Int) (h : 0 ≤ x ∧ x ≤ 255) : HoldsB (w.alloc (.cells #[.int .u8 x] 5)) (w.alloc (.cells #[.int .u8 x] 5)).heap.size (.slice (some ⟨w.heap.size, 0, none⟩) 1 1) [x] :=
  HoldsB.ofRow2 (off := 0) (Blk.new w _) rfl (Nat.le_refl _) (by unfold maxLen; omega) (fun i hi => match i, hi with | 0, _ => rfl | i + 1, hi => absurd hi (by simp)) (fun y hy => by simp at hy; subst hy; exact h)
/-- What stands in the length's bytes behind j rounds. -/
def lowst (E : Int) (j : Nat) : List Int := List.replicate (8 - j) 0 ++ (be64 E).drop (8 - j)
theorem lowst_len (E : Int) (j : Nat) (_h : j ≤ 8) : (lowst E j).length = 8 := by simp [lowst, be64_len]
theorem lowst_zero (E : Int) : lowst E 0 = List.replicate 8 0 := by simp [lowst, be64]
theorem lowst_full (E : Int) : lowst E 8 = be64 E := by simp [lowst]
theorem lowst_set (E : Int) (j : Nat) (h : j < 8) : (lowst E j).set (7 - j) (E / 256 ^ j % 256) = lowst E (j + 1) := by
  match j, h with
  | 0, _ => exact (show [0, 0, 0, 0, 0, 0, 0, E / 256 ^ 0 % 256] = lowst E 1 from rfl)
  | 1, _ => rfl
  | 2, _ => rfl
  | 3, _ => rfl
  | 4, _ => rfl
  | 5, _ => rfl
  | 6, _ => rfl
  | 7, _ => rfl
theorem be64_bytes (E : Int) : Bytes (be64 E) := by
  intro x hx
  unfold be64 at hx
  obtain ⟨i, _, rfl⟩ := List.mem_map.1 hx
  omega
set_option maxRecDepth 100000 in
theorem slice74_all (b : Nat) (w : World) : (Instr.sliceAt 165 (.pointer (some ⟨b, 0, none⟩)) none none none).run Tryd.prog w = .ok (.slice (some ⟨b, 0, none⟩) 8 8) w := by
  have hl : Tryd.prog.arrayLen 165 = 8 := by kernel_rfl
  have he : Tryd.prog.elem 165 = 5 := by kernel_rfl
  rw [run_sliceAt_array_all (ht := Tryd.underlying165), hl, he, size5]
  rfl
theorem ownsRow_set {w : World} {base n size D i : Nat} {e : TypeId} {v x : Value} {xs : List Value} (h : w.ownsRow base e size v n xs) (hne : v.ownBlock ≠ some D) : (w.setCell ⟨D, i, none⟩ x).ownsRow base e size v n xs :=
  h.kept (row := some D) ⟨rfl, rfl, rfl, by simp [World.setCell], fun k _ hk => Below.heap_setCell _ _ _ _ (fun e => hk (by simp [e]))⟩ (Or.inr hne)
def sliceLen : Value → Nat
  | .slice _ n _ => n
  | _ => 0
abbrev pre (p : List Int) (k : Nat) : List Int := p ++ ([128] ++ List.replicate k 0)
theorem pre_len (p : List Int) (k : Nat) : (pre p k).length = p.length + 1 + k := by simp; omega
theorem pre_succ (p : List Int) (k : Nat) : pre p (k + 1) = pre p k ++ [0] := by
  unfold pre
  rw [List.replicate_succ']
  simp
theorem pre_pad (p : List Int) : pre p (zeros p.length) ++ be64 (8 * (p.length : Int) % 18446744073709551616) = pad p := by
  unfold pre pad tail
  simp
set_option maxRecDepth 100000 in
set_option maxHeartbeats 2000000 in
theorem pad_any (M : Nat) (v : Value) (p : List Int) (w : World) (h : HoldsB w M v p) (hlen : p.length ≤ 140737488351400) :
    Calls Tryd.prog 112 #[v] w fun r w' => ∃ v', r = .returned v' ∧ w'.ownsRow w.heap.size 5 1 v' (pad p).length (bv (pad p)) ∧ Below w.heap.size w w' := by
  have H := Kp.mk h
  obtain ⟨a, len, cap, rfl, hn⟩ := h.slice
  have HN := Kp.mk hn
  have hl : len ≤ 140737488351400 := by omega
  clear h hn hlen
  go_enter Tryd.func112, Tryd.ntmps112
  go_wp2_with (at_builtin; refine wpList_append_holds rfl _ _ rfl w.heap.size _ _ _ rfl (World.ownsRow_made w #[] 0 (Nat.le_refl _) (by unfold maxLen; omega) rfl) M _ p rfl (H.out.alloc _) ?c0 ?c1 ?_)
  case c0 => have := HN.out; omega
  case c1 => simp
  intro v1 w1 ho hg
  have hbel : Below w.heap.size w w1 := below_row_grown (more (Below.refl _ _) (.cells #[] 5)) (by simp) (World.ownsRow_made (e := 5) (size := 1) w #[] 0 (Nat.le_refl _) (by unfold maxLen; omega) rfl) hg
  have ho1 : w1.ownsRow w.heap.size 5 1 v1 len (bv p) := by
    rw [HN.out]
    simpa using ho
  obtain ⟨a1, c1, rfl⟩ := row_slice ho1
  have HO1 := Kp.mk ho1
  have HB1 := Kp.mk hbel
  clear ho hg hbel ho1
  go_wp2_with (at_builtin; refine wpList_append_holds rfl _ _ rfl w.heap.size _ _ _ rfl (HO1.out.alloc _) _ _ [128] rfl (one_holds w1 128 (by omega)) ?d0 ?d1 ?_)
  case d0 => simp; omega
  case d1 => have := HB1.out.size; simp; omega
  intro v2 w2 ho hg
  have hbel : Below w.heap.size w w2 := below_row_grown (HB1.out.alloc HB1.out.size _) (by have := HB1.out.size; simp; omega) (HO1.out.alloc _) hg
  obtain ⟨L0, hL0⟩ : ∃ L0, L0 = len + 1 := ⟨_, rfl⟩
  have ho2 : w2.ownsRow w.heap.size 5 1 v2 L0 (bv (pre p 0)) := by
    have e : bv (pre p 0) = bv p ++ bv [128] := by simp
    rw [e, hL0]
    simpa using ho
  obtain ⟨a2, c2, rfl⟩ := row_slice ho2
  have HO2 := Kp.mk ho2
  have HB2 := Kp.mk hbel
  clear ho hg hbel ho2 HO1 HB1
  obtain ⟨z, hz⟩ : ∃ z, z = zeros len := ⟨_, rfl⟩
  have hz63 : z ≤ 63 := by rw [hz]; unfold zeros; omega
  have hzm : (L0 + z) % 64 = 56 := by rw [hz]; unfold zeros; omega
  have hzl : ∀ k, k < z → (L0 + k) % 64 ≠ 56 := by rw [hz]; unfold zeros; omega
  have HL0 := Kp.mk hL0
  have hlb : L0 ≤ 140737488351401 := by omega
  have HZ := Kp.mk hz
  have HZM := Kp.mk hzm
  have HZL := Kp.mk hzl
  clear hz hzm hzl hL0
  go_wp2_with fail
  go_loopw [3] (fun s3 wr => ∃ (k : Nat) (a3 : Option Addr) (c3 : Nat), k ≤ z ∧ s3 = .slice a3 (L0 + k) c3 ∧ Kp (wr.ownsRow w.heap.size 5 1 (.slice a3 (L0 + k) c3) (L0 + k) (bv (pre p k))) ∧ Below w.heap.size w wr) (fun s3 _ => L0 + z - sliceLen s3)
  case atStart => exact ⟨0, a2, c2, by omega, rfl, HO2, HB2.out⟩
  case round =>
    obtain ⟨k, a3, c3, hk, rfl, HO3, hbe⟩ := hrel
    have HB3 := Kp.mk hbe
    clear hbe HO2 HB2
    obtain ⟨L, hL⟩ : ∃ L, L = L0 + k := ⟨_, rfl⟩
    rw [← hL] at HO3
    rw [← hL]
    by_cases hlt : k < z
    · have hne := HZL.out k hlt
      rw [← hL] at hne
      have t1 : ((L : Int) % 64 == 56) = false := by rw [beq_eq_false_iff_ne]; omega
      have t2 : ((L : Int) % 64 != 56) = true := by rw [bne_iff_ne]; omega
      have hb : L ≤ 140737488352000 := by omega
      have HLe := Kp.mk hL
      clear hL hne
      go_wp2_with (at_builtin; refine wpList_append_holds rfl _ _ rfl w.heap.size _ _ _ rfl (HO3.out.alloc _) _ _ [0] rfl (one_holds wr 0 (by omega)) ?e0 ?e1 ?_)
      case e0 => simp; omega
      case e1 => have := HB3.out.size; simp; omega
      intro v4 w4 ho hg
      have hbel : Below w.heap.size w w4 := below_row_grown (HB3.out.alloc HB3.out.size _) (by have := HB3.out.size; simp; omega) (HO3.out.alloc _) hg
      have ho4 : w4.ownsRow w.heap.size 5 1 v4 (L0 + (k + 1)) (bv (pre p (k + 1))) := by
        rw [pre_succ, ← Nat.add_assoc, ← HLe.out]
        simpa using ho
      obtain ⟨a4, c4, rfl⟩ := row_slice ho4
      have HO4 := Kp.mk ho4
      have HB4 := Kp.mk hbel
      clear ho hg hbel ho4
      go_wp2_with fail
      refine ⟨⟨k + 1, a4, c4, by omega, rfl, HO4, HB4.out⟩, ?_⟩
      rw [HLe.out]
      simp [sliceLen]
      omega
    · have HK : Kp (k = z) := ⟨by omega⟩
      have hmm := HZM.out
      rw [← HK.out, ← hL] at hmm
      have t1 : ((L : Int) % 64 == 56) = true := by rw [beq_iff_eq]; omega
      have t2 : ((L : Int) % 64 != 56) = false := by rw [bne_eq_false_iff_eq]; omega
      have hb : L ≤ 140737488352000 := by omega
      have HLe := Kp.mk hL
      have HO5 : Kp (wr.ownsRow w.heap.size 5 1 (.slice a3 L c3) L (bv (pre p z))) := by
        have h := HO3.out
        rw [HK.out] at h
        exact ⟨h⟩
      clear hL hmm hlt hk HO3
      obtain ⟨D, hD⟩ : ∃ D, D = wr.heap.size := ⟨_, rfl⟩
      have HD := Kp.mk hD
      clear hD
      go_wp2_with fail
      rw [← HD.out]
      generalize hE : (len : Int) * 8 = E
      have e0 : 0 ≤ E := by omega
      have e1 : E ≤ 9000000000000000 := by omega
      have HE : Kp (8 * (p.length : Int) % 18446744073709551616 = E) := ⟨by have := HN.out; omega⟩
      clear hE t1 t2
      refine wp_world (fun W => Row W D 165 .u8 (lowst E 0) ∧ W.ownsRow w.heap.size 5 1 (.slice a3 L c3) L (bv (pre p z)) ∧ Below w.heap.size w W) ⟨by rw [lowst_zero]; exact Blk.newAt _ HD.out, HO5.out.alloc _, HB3.out.alloc HB3.out.size _⟩ ?_
      rintro w5 ⟨h1, h2, h3⟩
      have HDB : Kp (w.heap.size ≤ D ∧ (∀ g, a3 = some g → g.block ≠ D)) := ⟨⟨by rw [HD.out]; exact HB3.out.size, fun g hg => by
        subst hg
        have := (HO5.out.lt g.block (by simp [Value.ownBlock])).2
        rw [HD.out]
        omega⟩⟩
      have F1 := Kp.mk h1
      have F2 := Kp.mk h2
      have F3 := Kp.mk h3
      clear h1 h2 h3 HO5 HD HB3
      go_loopw [4, 6] (fun q c wr => ∃ j : Nat, j ≤ 8 ∧ c = .int .i64 ((7 : Int) - j) ∧ q = .int .u64 (E / 256 ^ j) ∧ Row wr D 165 .u8 (lowst E j) ∧ wr.ownsRow w.heap.size 5 1 (.slice a3 L c3) L (bv (pre p z)) ∧ Below w.heap.size w wr) (fun _ c _ => (intOf c + 1).toNat)
      case atStart => exact ⟨0, by omega, rfl, by simp, F1.out, F2.out, F3.out⟩
      case round =>
        obtain ⟨j, hj, rfl, rfl, h1, h2, h3⟩ := hrel
        have G1 := Kp.mk h1
        have G2 := Kp.mk h2
        have G3 := Kp.mk h3
        clear h1 h2 h3 F1 F2 F3
        have q0 : 0 ≤ E / 256 ^ j := Int.ediv_nonneg e0 (Int.pow_nonneg (by decide))
        have q1 : E / 256 ^ j ≤ 9000000000000000 := Int.le_trans (Int.ediv_le_self _ e0) e1
        have HQ : Kp (E / 256 ^ j / 256 = E / 256 ^ (j + 1)) := ⟨by rw [Int.ediv_ediv_of_nonneg (Int.pow_nonneg (by decide)), Int.pow_succ]⟩
        have HS := fun h => Kp.mk (lowst_set E j h)
        generalize hQ : E / 256 ^ j = Q at *
        by_cases hlj : j < 8
        · have HS2 := HS hlj
          clear HS
          obtain ⟨i, hi⟩ : ∃ i : Nat, (7 : Int) - j = i := ⟨7 - j, by omega⟩
          have HI : Kp (i = 7 - j ∧ i < 8) := ⟨by omega⟩
          rw [hi]
          have i8 : i < 8 := by omega
          have cw := G1.out.cell (i := i) (by rw [lowst_len E j hj]; exact i8)
          have fw := G1.out.frozen i
          have HHi := Kp.mk hi
          clear hi hQ
          go_wp2_with fail
          refine ⟨⟨j + 1, by omega, ?_, ?_, ?_, ?_, G3.out.setCell HDB.out.1 _⟩, by simp [intOf]⟩
          · have := HHi.out
            congr 1
            omega
          · rw [HQ.out]
          · refine (G1.out.set i _).as ?_
            rw [HI.out.1]
            exact HS2.out
          · refine ownsRow_set G2.out ?_
            cases a3 with
            | none => simp [Value.ownBlock]
            | some g => simp only [Value.ownBlock, ne_eq, Option.some.injEq]; exact HDB.out.2 g rfl
        · have HJ : Kp (j = 8) := ⟨by omega⟩
          obtain ⟨i, hi⟩ : ∃ i : Int, (7 : Int) - j = i := ⟨_, rfl⟩
          rw [hi]
          have i0 : i < 0 := by omega
          have hs := slice74_all D
          have G4 : Kp (Row wr D 165 .u8 (be64 E)) := by
            have h := G1.out
            rw [HJ.out, lowst_full] at h
            exact ⟨h⟩
          have HH : Kp (HoldsB wr wr.heap.size (.slice (some ⟨D, 0, none⟩) 8 8) (be64 E)) :=
            ⟨HoldsB.ofRow2 (off := 0) G4.out (be64_len E).symm (Nat.le_refl _) (by unfold maxLen; omega) (fun i hi => by simp [List.getElem?_eq_getElem hi, List.getD_eq_getElem?_getD]) (be64_bytes E)⟩
          have HLn : Kp (L = L0 + z) := ⟨by have := HLe.out; have := HK.out; omega⟩
          clear HS hi hQ G1 hlj hj
          go_wp2_with (at_builtin; refine wpList_append_holds rfl _ _ rfl w.heap.size _ _ _ rfl G2.out _ _ (be64 E) rfl HH.out ?f0 ?f1 ?_)
          case f0 => rw [be64_len]; omega
          case f1 => exact G3.out.size
          intro v6 w6 ho hg
          have hbel : Below w.heap.size w w6 := below_row_grown G3.out G3.out.size G2.out hg
          have ho6 : w6.ownsRow w.heap.size 5 1 v6 (pad p).length (bv (pad p)) := by
            have e1 : pre p z ++ be64 E = pad p := by rw [HZ.out, HN.out, ← HE.out]; exact pre_pad p
            rw [be64_len] at ho
            have e2 : bv (pad p) = bv (pre p z) ++ bv (be64 E) := by rw [← e1]; simp
            have e3 : (pad p).length = L + 8 := by rw [← e1, List.length_append, pre_len, be64_len]; have := HLn.out; have := HL0.out; have := HN.out; omega
            rw [e2, e3]
            simpa using ho
          have HO6 := Kp.mk ho6
          have HB6 := Kp.mk hbel
          clear ho hg hbel ho6 hs
          go_wp2_with fail
          go_ret
          exact ⟨_, rfl, HO6.out, HB6.out⟩
end Go.Proofs.YtahmioiefmheeaaDoor

namespace Go.Proofs.YtahmioiefmheeaaDoor
open Go.RowKit

/-- The slice v shows rows of bytes. -/
def HoldsP (w : World) (v : Value) (zs : List (List Int)) : Prop :=
  ∃ a cap, v = .slice a zs.length cap ∧ zs.length ≤ maxLen ∧ ∀ i, i < zs.length → ∃ b off a1 n1 c1, a = some ⟨b, off, none⟩ ∧ b < w.heap.size ∧ w.cell? ⟨b, off + i, none⟩ = some (.slice a1 n1 c1) ∧ HoldsB w w.heap.size (.slice a1 n1 c1) (zs.getD i [])
theorem HoldsP.keep {w w' : World} {v : Value} {zs : List (List Int)} (h : HoldsP w v zs) (hb : Below w.heap.size w w') : HoldsP w' v zs := by
  obtain ⟨a, cap, h1, h2, h3⟩ := h
  refine ⟨a, cap, h1, h2, fun i hi => ?_⟩
  obtain ⟨b, off, a1, n1, c1, e1, e2, e3, e4⟩ := h3 i hi
  exact ⟨b, off, a1, n1, c1, e1, Nat.lt_of_lt_of_le e2 hb.size, (hb.cell (p := ⟨b, off + i, none⟩) e2).trans e3, (e4.keep hb).mono hb.size⟩
theorem HoldsP.slice {w : World} {v : Value} {zs : List (List Int)} (h : HoldsP w v zs) : ∃ a n cap, v = .slice a n cap ∧ n = zs.length := by
  obtain ⟨a, cap, h1, _⟩ := h
  exact ⟨a, _, cap, h1, rfl⟩
open Go.ChangeShapes Go.WideShapes Go.ChangeAt Go.Deep in
theorem trod_row {H : Type} {enc : TypeId × Value → H} {W : World} {n : Nat} {V : Value} {d : DataW H} {p : List MemPlace}
    (h : DataW.trod enc Tryd.prog W 0 (fun _ => true) true n 22 [V] = some (d, p)) : ∃ a len cap l, V = .slice a len cap ∧ HoldsB W W.heap.size (.slice a len cap) l := by
  rcases open_slice1 Tryd.underlying22 (by kernel_rfl) h with ⟨hcs, _⟩ | ⟨x, l, c, m, n', V', D, Pl, hcs, _⟩
  · simp only [List.cons.injEq, and_true] at hcs
    subst hcs
    exact ⟨_, _, _, [], rfl, HoldsB.nil _ _⟩
  · simp only [List.cons.injEq, and_true] at hcs
    subst hcs
    obtain ⟨l', h'⟩ := row_bytes (enc := enc) (W := W) (a := some x) (len := l) (cap := c) (d := d) (p := p) ⟨n, h⟩
    exact ⟨_, _, _, l', rfl, h'⟩
open Go.ChangeShapes Go.WideShapes Go.ChangeAt Go.Deep in
/-- A slice of slices of bytes that came in. -/
theorem row_parts {H : Type} {enc : TypeId × Value → H} {W : World} {a : Option Addr} {len cap : Nat} {d : DataW H} {p : List MemPlace}
    (k : DataW.Trod enc Tryd.prog W 0 (fun _ => true) true 31 (.slice a len cap) d p) : ∃ zs, HoldsP W (.slice a len cap) zs := by
  obtain ⟨fuel, hf⟩ := k
  rcases open_slice1 Tryd.underlying31 (by kernel_rfl) hf with ⟨hcs, _⟩ | ⟨x, l, c, m, n, V, D, Pl, hcs, hb, hl, hm, hmm, hx, hi⟩
  · simp [Value.cells] at hcs
    obtain ⟨rfl, rfl, rfl⟩ := hcs
    exact ⟨[], none, 0, rfl, by unfold maxLen; simp, fun i hi => by simp at hi⟩
  · simp [Value.cells] at hcs
    obtain ⟨rfl, rfl, rfl⟩ := hcs
    have hmc : m = cap := by simpa using hmm
    have each : ∀ i, i < len → ∃ l', ∃ a1 n1 c1, W.cell? (x.add i) = some (.slice a1 n1 c1) ∧ HoldsB W W.heap.size (.slice a1 n1 c1) l' := fun i him => by
      obtain ⟨hc, ht⟩ := hi i (by omega)
      obtain ⟨a1, n1, c1, l', e, hh⟩ := trod_row ht
      rw [e] at hc
      exact ⟨l', a1, n1, c1, hc, hh⟩
    obtain ⟨f, hf'⟩ : ∃ f : Nat → List Int, ∀ i, i < len → ∃ a1 n1 c1, W.cell? (x.add i) = some (.slice a1 n1 c1) ∧ HoldsB W W.heap.size (.slice a1 n1 c1) (f i) := by
      refine ⟨fun i => if h : i < len then Classical.choose (each i h) else [], fun i hi => ?_⟩
      simp only [hi, dif_pos]
      exact Classical.choose_spec (each i hi)
    refine ⟨(List.range len).map f, some x, cap, by simp, by simp; omega, fun i hi' => ?_⟩
    simp at hi'
    obtain ⟨a1, n1, c1, e1, e2⟩ := hf' i hi'
    have hsp : x.spot = none ∧ x.block < W.heap.size := by
      obtain ⟨_, _, _, h1, _⟩ := hf' 0 (by omega)
      have h2 : x.add 0 = x := by simp [Addr.add]
      rw [h2] at h1
      exact ⟨World.cell?_spot h1, World.block_lt_of_cell? W _ h1⟩
    obtain ⟨b, off, spot⟩ := x
    simp only at hsp
    obtain ⟨rfl, hlt⟩ := hsp
    have e : (⟨b, off, none⟩ : Addr).add i = ⟨b, off + i, none⟩ := by unfold Addr.add; split <;> simp_all
    rw [e] at e1
    refine ⟨b, off, a1, n1, c1, rfl, hlt, e1, ?_⟩
    rw [List.getD_eq_getElem?_getD, List.getElem?_map, List.getElem?_range hi']
    exact e2
end Go.Proofs.YtahmioiefmheeaaDoor

namespace Go.Proofs.YtahmioiefmheeaaDoor
open Go.RowKit

theorem row_upto {w w' : World} {base B n : Nat} {e : TypeId} {v : Value} {xs : List Value} (h : w.ownsRow base e 1 v n xs) (hlt : ∀ g, v.ownBlock = some g → g < B) (hb : Below B w w') : w'.ownsRow base e 1 v n xs := by
  obtain ⟨h1, h2⟩ := h
  refine ⟨h1, ?_⟩
  rcases h2 with h2 | ⟨g, cap, cur, e1, hg, hh, r⟩
  · exact .inl h2
  · subst e1
    exact .inr ⟨g, cap, cur, rfl, hg, (hb.block g (hlt g rfl)).trans hh, r⟩
theorem HashIs.upto {w w' : World} {b B : Nat} {l : List Int} (h : HashIs w b l) (hb : Below B w w') (hB : b < B) : HashIs w' b l := by
  obtain ⟨rest, h1, h2, h3, h4⟩ := h
  exact ⟨rest, h1, h2, h3, h4.upto hb hB⟩
theorem bits_u8 (op : BinOp) (x y : Int) : 0 ≤ bits op .u8 x y ∧ bits op .u8 x y ≤ 255 := by
  unfold bits
  simp only [IntKind.wrap_u8']
  omega
/-- append of bytes to an empty row that the call made: what is handed back isn't nil. -/
theorem wpList_append_made {w : World} {ops : Array Oper} {rest : List Oper} {o : Oper} {a : Act} {Q : Exit → Act → World → Prop} (hgd : o.guard = none) (s x : Operand)
    (ho : o.op = .call { callee := .builtin .append, args := #[s, x], argTypes := #[22, 22] })
    (base g0 : Nat) (hs : a.eval s = .slice (some ⟨g0, 0, none⟩) 0 0) (hown : w.ownsRow base 5 1 (.slice (some ⟨g0, 0, none⟩) 0 0) 0 [])
    (M : Nat) (u : Value) (p : List Int) (hx : a.eval x = u) (hp : HoldsB w M u p) (h63 : p.length ≤ 140737488355328) (hbase : base ≤ w.heap.size)
    (h : ∀ g c w', w'.ownsRow base 5 1 (.slice (some ⟨g, 0, none⟩) p.length c) p.length (kv .u8 p) → w.grownBy w' (some g0) → wpList Tryd.prog ops Q rest (a.put o.dst (.slice (some ⟨g, 0, none⟩) p.length c)) w') : wpList Tryd.prog ops Q (o :: rest) a w := by
  obtain ⟨i0, hi, hz0, hz1, hz2⟩ := info_parts info5
  obtain ⟨ad, m, cap, rfl, hm⟩ := hp.slice
  cases ad with
  | none =>
    obtain ⟨a', cap', h1, h2, h3, h4, h5, h6, h7⟩ := hp
    simp only [Value.slice.injEq] at h1
    have hc := h4 h1.1.symm
    have hl : p = [] := List.length_eq_zero_iff.1 (by omega)
    subst hl
    have hx' : a.eval x = .slice none 0 0 := by rw [hx]; simp only [Value.slice.injEq, true_and]; exact ⟨by simpa using hm, by omega⟩
    exact wpList_append_own_none hgd s x 22 ho base 5 i0 1 Tryd.underlying22 hi _ 0 [] hs hown hx' (h g0 0 w hown ⟨rfl, rfl, rfl, Nat.le_refl _, fun _ _ _ => rfl⟩)
  | some ad =>
    refine wpList_append_own w hgd s x 22 ho base 5 i0 (.int .u8 0) 1 1 Tryd.underlying22 hi hz0 hz1 hz2 rfl (by decide) _ 0 [] hs hown ad m cap (bv p) hx (by rw [bv_len]; omega) hp.news (bv_one _) (by unfold maxLen; omega) (by omega) hbase fun v' w' h1 h2 h3 => ?_
    rw [hm, Nat.zero_add, List.nil_append] at h1
    rcases h1.2 with ⟨rfl, hn⟩ | ⟨g, c, cur, rfl, _⟩
    · exact absurd (h3.1 rfl).1 (by simp)
    · exact h g c w' h1 h2
end Go.Proofs.YtahmioiefmheeaaDoor

namespace Go.Proofs.YtahmioiefmheeaaDoor
open Go.RowKit

theorem info5i : (Tryd.prog.info? 5).map (fun i => (i.zero, i.size, i.bytes)) = some (some (.int .u8 0), 1, 1) := info5
abbrev Bd (B b : Nat) (bs : List Value) (w : World) : Prop := Lib.BuilderAt 112 5 B b (.pointer (some ⟨b, 0, none⟩)) bs w
theorem Bd.cell1 {B b : Nat} {bs : List Value} {w : World} (h : Bd B b bs w) : ∃ v, w.cell? ⟨b, 1, none⟩ = some v ∧ w.frozen? ⟨b, 1, none⟩ = false ∧ w.ownsRow B 5 1 v bs.length bs ∧ v.ownBlock ≠ some b := by
  obtain ⟨_, v, hb, ho, hn⟩ := h
  exact ⟨v, Lib.cell_of_heap hb 1, Lib.frozen_of_heap hb 1, ho, hn⟩
set_option maxRecDepth 100000 in
set_option maxHeartbeats 400000 in
theorem copyCheck_used (B b : Nat) (bs : List Value) (w : World) (h : Bd B b bs w) : Calls Tryd.prog 105 #[.pointer (some ⟨b, 0, none⟩)] w fun r w' => r = .returned (.tuple #[]) ∧ w' = w := by
  have c0 := Lib.BuilderAt.cell0 h
  have hj : (Tryd.prog.info? 112).isSome = true := by kernel_rfl
  obtain ⟨j, hj⟩ := Option.isSome_iff_exists.1 hj
  have hq : ∀ w, (binOp .neq 110 (.pointer (some ⟨b, 0, none⟩)) (.pointer (some ⟨b, 0, none⟩))).run Tryd.prog w = .ok (.bool false) w := fun w => Lib.run_neq_ptr_same w ⟨b, 0, none⟩ Tryd.underlying110 hj
  clear h hj
  go_enter Tryd.func105, Tryd.ntmps105
  go_wp2_with fail
  go_end0
  exact ⟨rfl, rfl⟩
set_option maxRecDepth 100000 in
set_option maxHeartbeats 400000 in
theorem writeByte (B b : Nat) (bs : List Value) (c : Int) (w : World) (h : Bd B b bs w) (hl : bs.length + 1 ≤ 140737488355328) (hB : B ≤ w.heap.size) :
    Calls Tryd.prog 79 #[.pointer (some ⟨b, 0, none⟩), .int .u8 c] w fun r w' => r = .returned .nilIface ∧ Bd B b (bs ++ [.int .u8 c]) w' ∧ Below B w w' := by
  obtain ⟨i0, hi, hz0, hz1, hz2⟩ := info_parts info5
  have H := Lib.hid h
  have h' := h
  obtain ⟨hBb, v, hb, ho, hn⟩ := h'
  have c1 : w.cell? ⟨b, 1, none⟩ = some v := Lib.cell_of_heap hb 1
  have f1 := Lib.frozen_of_heap hb 1
  have HBb := Lib.hid hBb
  have Hb : Hid (Blk w b (.cells #[.pointer (some ⟨b, 0, none⟩), v] 112)) := hb
  have HO := Lib.hid ho
  have HN := Lib.hid hn
  have HL := Lib.hid hl
  have HBw := Lib.hid hB
  have HLt : Hid (b < w.heap.size) := Lib.BuilderAt.lt h
  clear ho hn hl hB h hBb hb
  go_enter Tryd.func79, Tryd.ntmps79
  go_wp2_with fail
  refine (copyCheck_used B b bs w H.out).mono ?_
  rintro r w1 ⟨rfl, rfl⟩
  go_wp2_with (at_builtin; refine wpList_append_own _ rfl _ _ 22 rfl B 5 i0 (.int .u8 0) 1 1 Tryd.underlying22 hi hz0 hz1 hz2 rfl (by decide) _ _ _ rfl (HO.out.alloc _) ⟨w1.heap.size, 0, none⟩ 1 1 [.int .u8 c] rfl rfl ?c1 ?c2 ?c3 ?c4 ?c5 ?_)
  case c1 =>
    intro j u hu
    match j with
    | 0 =>
      simp at hu
      subst hu
      exact (Blk.cell (Blk.new w1 (.cells #[.int .u8 c] 5)) 0)
    | j + 1 => simp at hu
  case c2 => intro u hu; simp at hu; subst hu; rfl
  case c3 => have := HL.out; unfold maxLen; omega
  case c4 => have := HL.out; omega
  case c5 => have := HBw.out; simp; omega
  intro v' w3 ho' hg _
  have HO' := Lib.hid ho'
  have hb3 : w3.heap[b]? = w1.heap[b]? := by
    rw [hg.block b (by simp; have := HLt.out; omega) (fun e => HN.out e.symm)]
    exact (more (Below.refl w1.heap.size w1) _).block b HLt.out
  have Hb3 : Hid (Blk w3 b (.cells #[.pointer (some ⟨b, 0, none⟩), v] 112)) := hb3.trans Hb.out
  have HBel : Hid (Below B w1 w3) := by
    have h1 : Below B w1 (w1.alloc (.cells #[.int .u8 c] 5)) := (Below.refl _ _).alloc HBw.out _
    exact below_row_grown h1 (by simp; have := HBw.out; omega) (HO.out.alloc _) hg
  have c3 : w3.cell? ⟨b, 1, none⟩ = some v := (Hb3.out.cell 1).trans rfl
  have f3 : w3.frozen? ⟨b, 1, none⟩ = false := Hb3.out.frozen 1
  obtain ⟨g, cap, rfl⟩ : ∃ g cap, v' = .slice (some ⟨g, 0, none⟩) (bs.length + 1) cap := by
    rcases ho'.2 with ⟨_, hn⟩ | ⟨g, cap, cur, hv, _⟩
    · omega
    · exact ⟨g, cap, hv⟩
  clear ho' hg hb3 c1 f1
  go_wp2_with fail
  go_ret
  refine ⟨rfl, ?_, HBel.out.setCell HBb.out _⟩
  exact Lib.BuilderAt.put HBb.out Hb3.out (by have h := HO'.out; simpa using h) (by decide)
end Go.Proofs.YtahmioiefmheeaaDoor

namespace Go.Proofs.YtahmioiefmheeaaDoor
open Go.Shelf
def Tryd.lays169_ren : Go.Shelf.Ren := ⟨fun | 169 => 80 | n => n, fun | 70 => 110 | 9 => 9 | 0 => 0 | 72 => 112 | 37 => 22 | 127 => 144 | 3 => 3 | 5 => 5 | n => n, fun | n => n⟩
theorem Tryd.lays169 : Go.Proofs.Lays.n169 Tryd.prog Tryd.lays169_ren := {
  mixed := by kernel_rfl
  f169 := Tryd.func80.trans (congrArg some (by kernel_rfl))
  t0 := Tryd.underlying0
  a0 := Tryd.isAgg0
  z0 := Tryd.sizeOf0
  v0 := Tryd.zeroValue0
  t3 := Tryd.underlying3
  a3 := Tryd.isAgg3
  z3 := Tryd.sizeOf3
  v3 := Tryd.zeroValue3
  t9 := Tryd.underlying9
  a9 := Tryd.isAgg9
  z9 := Tryd.sizeOf9
  v9 := Tryd.zeroValue9
  t37 := Tryd.underlying22
  a37 := Tryd.isAgg22
  z37 := Tryd.sizeOf22
  v37 := Tryd.zeroValue22
  t70 := Tryd.underlying110
  a70 := Tryd.isAgg110
  z70 := Tryd.sizeOf110
  v70 := Tryd.zeroValue110
  t72 := Tryd.underlying112
  a72 := Tryd.isAgg112
  z72 := Tryd.sizeOf112
  v72 := Tryd.zeroValue112
  t127 := Tryd.underlying144
  a127 := Tryd.isAgg144
  z127 := Tryd.sizeOf144
  v127 := Tryd.zeroValue144 }
theorem Tryd.Builder_Extra_169 : Builder.Extra Tryd.prog Tryd.lays169_ren := {
  sizeBuilder := by kernel_rfl
  liesBuilder := by kernel_rfl
  t5 := Tryd.underlying5
  a5 := Tryd.isAgg5
  z5 := Tryd.sizeOf5
  v5 := Tryd.zeroValue5
  infoByte := by kernel_rfl
  cellsByte := by kernel_rfl
  sizeByte := by kernel_rfl
  neB5 := by decide }
open Go.RowKit in
/-- (*strings.Builder).String: "String returns the accumulated string.": OF A BUILDER THAT HOLDS AT LEAST ONE BYTE. ✋ THE MODEL FREEZES THOSE BYTES IN THE BUFFER (unsafe.String): a later write INTO them ends the model's run without an answer; a later append BEHIND them goes on. The statement's order of evaluation is drawn: one draw. (LAID: no walk: one application.) -/
theorem Tryd.Builder_String (B b : Nat) (l : List UInt8) (w : World) (h : Lib.IsBuilder 112 5 B b (Lib.byteCells l) w) (h0 : l ≠ []) :
    Calls Tryd.prog 80 #[.pointer (some ⟨b, 0, none⟩)] w fun e w' => e = .returned (.string ⟨l.toArray⟩) ∧ Below B w w' := Any.Builder_String Tryd.lays169 Tryd.Builder_Extra_169 B b l w h h0
open Go.RowKit in
/-- (*strings.Builder).String OF A BUILDER THAT HOLDS NO BYTE: the empty string. (Its buffer is nil, or a row of which it has taken nothing yet; where that row has NO capacity the model lays one new block for unsafe.SliceData's 'some address'.) One draw. (LAID: no walk: one application.) -/
theorem Tryd.Builder_String_empty (B b : Nat) (w : World) (h : Lib.IsBuilder 112 5 B b [] w) (hBw : B ≤ w.heap.size) :
    Calls Tryd.prog 80 #[.pointer (some ⟨b, 0, none⟩)] w fun e w' => e = .returned (.string ⟨#[]⟩) ∧ Below B w w' := Any.Builder_String_empty Tryd.lays169 Tryd.Builder_Extra_169 B b w h hBw
open Go.RowKit in
/-- (*strings.Builder).String: "String returns the accumulated string.": WHATEVER THE BUILDER HOLDS. (LAID: no walk: one application.) -/
theorem Tryd.Builder_String_any (B b : Nat) (l : List UInt8) (w : World) (h : Lib.IsBuilder 112 5 B b (Lib.byteCells l) w) (hBw : B ≤ w.heap.size) :
    Calls Tryd.prog 80 #[.pointer (some ⟨b, 0, none⟩)] w fun e w' => e = .returned (.string ⟨l.toArray⟩) ∧ Below B w w' := Any.Builder_String_any Tryd.lays169 Tryd.Builder_Extra_169 B b l w h hBw
def Tryd.lays241_ren : Go.Shelf.Ren := ⟨fun | 241 => 106 | 277 => 120 | n => n, fun | 70 => 110 | 3 => 3 | 0 => 0 | 72 => 112 | 37 => 22 | 5 => 5 | n => n, fun | n => n⟩
theorem Tryd.lays241 : Go.Proofs.Lays.n241 Tryd.prog Tryd.lays241_ren := {
  mixed := by kernel_rfl
  f241 := Tryd.func106.trans (congrArg some (by kernel_rfl))
  f277 := Tryd.func120.trans (congrArg some (by kernel_rfl))
  t0 := Tryd.underlying0
  a0 := Tryd.isAgg0
  z0 := Tryd.sizeOf0
  v0 := Tryd.zeroValue0
  t3 := Tryd.underlying3
  a3 := Tryd.isAgg3
  z3 := Tryd.sizeOf3
  v3 := Tryd.zeroValue3
  t37 := Tryd.underlying22
  a37 := Tryd.isAgg22
  z37 := Tryd.sizeOf22
  v37 := Tryd.zeroValue22
  t70 := Tryd.underlying110
  a70 := Tryd.isAgg110
  z70 := Tryd.sizeOf110
  v70 := Tryd.zeroValue110
  t72 := Tryd.underlying112
  a72 := Tryd.isAgg112
  z72 := Tryd.sizeOf112
  v72 := Tryd.zeroValue112 }
theorem Tryd.Builder_Extra_241 : Builder.Extra Tryd.prog Tryd.lays241_ren := {
  sizeBuilder := by kernel_rfl
  liesBuilder := by kernel_rfl
  t5 := Tryd.underlying5
  a5 := Tryd.isAgg5
  z5 := Tryd.sizeOf5
  v5 := Tryd.zeroValue5
  infoByte := by kernel_rfl
  cellsByte := by kernel_rfl
  sizeByte := by kernel_rfl
  neB5 := by decide }
open Go.RowKit in
/-- (*strings.Builder).grow (no doc but "grow copies the buffer to a new, larger buffer so that there are at least n bytes of capacity beyond len(b.buf)."): AT A BUILDER WITHOUT A BUFFER: a new row of whatever bytes for its buffer, none of them its own yet. Three draws. (LAID: no walk: one application.) -/
theorem Tryd.Builder_grow_fresh (B b n : Nat) (w : World) (hB : B ≤ b) (hbk : w.heap[b]? = some (.cells #[.pointer (some ⟨b, 0, none⟩), .slice none 0 0] 112 (0, 0))) (hBw : B ≤ w.heap.size) (hn : n ≤ 281474976710656) :
    Calls Tryd.prog 106 #[.pointer (some ⟨b, 0, none⟩), .int .i64 n] w fun e w' => e = .returned (.tuple #[]) ∧ (Lib.BuilderAt 112 5 B b (.pointer (some ⟨b, 0, none⟩)) [] w' ∧ Below B w w') := Any.Builder_grow_fresh Tryd.lays241 Tryd.Builder_Extra_241 B b n w hB hbk hBw hn
def Tryd.lays165_ren : Go.Shelf.Ren := ⟨fun | 165 => 78 | 240 => 105 | 241 => 106 | 276 => 119 | 277 => 120 | n => n, fun | 70 => 110 | 3 => 3 | 0 => 0 | 4 => 4 | 9 => 9 | 20 => 20 | 72 => 112 | 37 => 22 | 164 => 159 | 5 => 5 | n => n, fun | n => n⟩
theorem Tryd.lays165 : Go.Proofs.Lays.n165 Tryd.prog Tryd.lays165_ren := {
  mixed := by kernel_rfl
  f165 := Tryd.func78.trans (congrArg some (by kernel_rfl))
  f240 := Tryd.func105.trans (congrArg some (by kernel_rfl))
  f241 := Tryd.func106.trans (congrArg some (by kernel_rfl))
  f276 := Tryd.func119.trans (congrArg some (by kernel_rfl))
  f277 := Tryd.func120.trans (congrArg some (by kernel_rfl))
  t0 := Tryd.underlying0
  a0 := Tryd.isAgg0
  z0 := Tryd.sizeOf0
  v0 := Tryd.zeroValue0
  t3 := Tryd.underlying3
  a3 := Tryd.isAgg3
  z3 := Tryd.sizeOf3
  v3 := Tryd.zeroValue3
  t4 := Tryd.underlying4
  a4 := Tryd.isAgg4
  z4 := Tryd.sizeOf4
  v4 := Tryd.zeroValue4
  t9 := Tryd.underlying9
  a9 := Tryd.isAgg9
  z9 := Tryd.sizeOf9
  v9 := Tryd.zeroValue9
  t20 := Tryd.underlying20
  a20 := Tryd.isAgg20
  z20 := Tryd.sizeOf20
  v20 := Tryd.zeroValue20
  t37 := Tryd.underlying22
  a37 := Tryd.isAgg22
  z37 := Tryd.sizeOf22
  v37 := Tryd.zeroValue22
  t70 := Tryd.underlying110
  a70 := Tryd.isAgg110
  z70 := Tryd.sizeOf110
  v70 := Tryd.zeroValue110
  t72 := Tryd.underlying112
  a72 := Tryd.isAgg112
  z72 := Tryd.sizeOf112
  v72 := Tryd.zeroValue112
  t164 := Tryd.underlying159
  a164 := Tryd.isAgg159
  z164 := Tryd.sizeOf159
  v164 := Tryd.zeroValue159 }
theorem Tryd.Builder_Extra_165 : Builder.Extra Tryd.prog Tryd.lays165_ren := {
  sizeBuilder := by kernel_rfl
  liesBuilder := by kernel_rfl
  t5 := Tryd.underlying5
  a5 := Tryd.isAgg5
  z5 := Tryd.sizeOf5
  v5 := Tryd.zeroValue5
  infoByte := by kernel_rfl
  cellsByte := by kernel_rfl
  sizeByte := by kernel_rfl
  neB5 := by decide }
open Go.RowKit in
/-- (*strings.Builder).Grow AT A BUILDER THAT HAS NOT BEEN WRITTEN ('var b strings.Builder; b.Grow(n)'): "Grow grows b's capacity, if necessary, to guarantee space for another n bytes.": it holds no byte behind it as before it. (LAID: no walk: one application.) -/
theorem Tryd.Builder_Grow_fresh (B b n : Nat) (w : World) (hB : B ≤ b) (hbk : w.heap[b]? = some (.cells #[.pointer none, .slice none 0 0] 112 (0, 0))) (hBw : B ≤ w.heap.size) (hn : n ≤ 281474976710656) :
    Calls Tryd.prog 78 #[.pointer (some ⟨b, 0, none⟩), .int .i64 n] w fun e w' => e = .returned (.tuple #[]) ∧ (Lib.BuilderAt 112 5 B b (.pointer (some ⟨b, 0, none⟩)) [] w' ∧ Below B w w') := Any.Builder_Grow_fresh Tryd.lays165 Tryd.Builder_Extra_165 B b n w hB hbk hBw hn
def Tryd.lays137_ren : Go.Shelf.Ren := ⟨fun | 137 => 76 | 217 => 104 | 266 => 118 | n => n, fun | 9 => 9 | 5 => 5 | 3 => 3 | n => n, fun | n => n⟩
theorem Tryd.lays137 : Go.Proofs.Lays.n137 Tryd.prog Tryd.lays137_ren := {
  mixed := by kernel_rfl
  f137 := Tryd.func76.trans (congrArg some (by kernel_rfl))
  f217 := Tryd.func104.trans (congrArg some (by kernel_rfl))
  f266 := Tryd.func118.trans (congrArg some (by kernel_rfl))
  t3 := Tryd.underlying3
  a3 := Tryd.isAgg3
  z3 := Tryd.sizeOf3
  v3 := Tryd.zeroValue3
  t5 := Tryd.underlying5
  a5 := Tryd.isAgg5
  z5 := Tryd.sizeOf5
  v5 := Tryd.zeroValue5
  t9 := Tryd.underlying9
  a9 := Tryd.isAgg9
  z9 := Tryd.sizeOf9
  v9 := Tryd.zeroValue9 }
open Go.RowKit in
/-- strings.IndexByte: "IndexByte returns the index of the first instance of c in s, or -1 if c is not present in s.": IT RETURNS 'Lib.indexByte s c'; the world is as it was. (LAID: no walk: one application.) -/
theorem Tryd.strings_IndexByte (s : ByteArray) (c : Int) (w : World) :
    Calls Tryd.prog 76 #[.string s, .int .u8 c] w fun e w' => e = .returned (.int .i64 (Lib.indexByte s.data.toList c.toNat.toUInt8)) ∧ w' = w := Any.strings_IndexByte Tryd.lays137 s c w
open Go.RowKit in
/-- (*strings.Builder).String: "String returns the accumulated string.": OF A BUILDER THAT HOLDS AT LEAST ONE BYTE. ✋ THE MODEL FREEZES THOSE BYTES IN THE BUFFER (unsafe.String): a later write INTO them ends the model's run without an answer; a later append BEHIND them goes on. The statement's order of evaluation is drawn: one draw. THE FORM '_f': IT SAYS BESIDES THAT THE BUILDER IS A BUILDER STILL ('Lib.IsBuilderF', the same bytes): SO IT CAN BE WRITTEN ON: 'b.WriteString(b.String()[:k])'. (LAID: no walk: one application.) -/
theorem Tryd.Builder_String_f (B b : Nat) (l : List UInt8) (w : World) (h : Lib.IsBuilderF 112 5 B b (Lib.byteCells l) w) (h0 : l ≠ []) :
    Calls Tryd.prog 80 #[.pointer (some ⟨b, 0, none⟩)] w fun e w' => e = .returned (.string ⟨l.toArray⟩) ∧ (Lib.IsBuilderF 112 5 B b (Lib.byteCells l) w' ∧ Below B w w') := Any.Builder_String_f Tryd.lays169 Tryd.Builder_Extra_169 B b l w h h0
open Go.RowKit in
/-- (*strings.Builder).String OF A BUILDER THAT HOLDS NO BYTE: the empty string; THE FORM '_f': a builder still. (LAID: no walk: one application.) -/
theorem Tryd.Builder_String_empty_f (B b : Nat) (w : World) (h : Lib.IsBuilderF 112 5 B b [] w) (hBw : B ≤ w.heap.size) :
    Calls Tryd.prog 80 #[.pointer (some ⟨b, 0, none⟩)] w fun e w' => e = .returned (.string ⟨#[]⟩) ∧ (Lib.IsBuilderF 112 5 B b [] w' ∧ Below B w w') := Any.Builder_String_empty_f Tryd.lays169 Tryd.Builder_Extra_169 B b w h hBw
open Go.RowKit in
/-- (*strings.Builder).String: "String returns the accumulated string.": WHATEVER THE BUILDER HOLDS; THE FORM '_f': OF A BUILDER THAT MAY HAVE BEEN READ BEFORE; AND IT IS A BUILDER STILL, holding the same bytes: it can be written on. (LAID: no walk: one application.) -/
theorem Tryd.Builder_String_any_f (B b : Nat) (l : List UInt8) (w : World) (h : Lib.IsBuilderF 112 5 B b (Lib.byteCells l) w) (hBw : B ≤ w.heap.size) :
    Calls Tryd.prog 80 #[.pointer (some ⟨b, 0, none⟩)] w fun e w' => e = .returned (.string ⟨l.toArray⟩) ∧ (Lib.IsBuilderF 112 5 B b (Lib.byteCells l) w' ∧ Below B w w') := Any.Builder_String_any_f Tryd.lays169 Tryd.Builder_Extra_169 B b l w h hBw
open Go.RowKit in
/-- (*strings.Builder).String: "String returns the accumulated string.": OF A BUILDER THAT HOLDS AT LEAST ONE BYTE. ✋ THE MODEL FREEZES THOSE BYTES IN THE BUFFER (unsafe.String): a later write INTO them ends the model's run without an answer; a later append BEHIND them goes on. The statement's order of evaluation is drawn: one draw. THE FORM '_k': OVER 'Lib.IsBuilderF' (a builder that 'String()' may have read), AND WITH THE FRAME THAT REACHES ABOVE THE BUILDER: 'Lib.OthersKept': every block that is not b and is no row of uint8's stands as it stood: the iterator of a range among them. (LAID: no walk: one application.) -/
theorem Tryd.Builder_String_k (B b : Nat) (l : List UInt8) (w : World) (h : Lib.IsBuilderF 112 5 B b (Lib.byteCells l) w) (h0 : l ≠ []) :
    Calls Tryd.prog 80 #[.pointer (some ⟨b, 0, none⟩)] w fun e w' => e = .returned (.string ⟨l.toArray⟩) ∧ (Lib.IsBuilderF 112 5 B b (Lib.byteCells l) w' ∧ Below B w w' ∧ Lib.OthersKept 5 (some b) w w') := Any.Builder_String_k Tryd.lays169 Tryd.Builder_Extra_169 B b l w h h0
open Go.RowKit in
/-- (*strings.Builder).String OF A BUILDER THAT HOLDS NO BYTE: the empty string; THE FORM '_k': OVER 'Lib.IsBuilderF' (a builder that 'String()' may have read), AND WITH THE FRAME THAT REACHES ABOVE THE BUILDER: 'Lib.OthersKept': every block that is not b and is no row of uint8's stands as it stood: the iterator of a range among them. (LAID: no walk: one application.) -/
theorem Tryd.Builder_String_empty_k (B b : Nat) (w : World) (h : Lib.IsBuilderF 112 5 B b [] w) (hBw : B ≤ w.heap.size) :
    Calls Tryd.prog 80 #[.pointer (some ⟨b, 0, none⟩)] w fun e w' => e = .returned (.string ⟨#[]⟩) ∧ (Lib.IsBuilderF 112 5 B b [] w' ∧ Below B w w' ∧ Lib.OthersKept 5 (some b) w w') := Any.Builder_String_empty_k Tryd.lays169 Tryd.Builder_Extra_169 B b w h hBw
open Go.RowKit in
/-- (*strings.Builder).String: "String returns the accumulated string.": WHATEVER THE BUILDER HOLDS; THE FORM '_k': OVER 'Lib.IsBuilderF' (a builder that 'String()' may have read), AND WITH THE FRAME THAT REACHES ABOVE THE BUILDER: 'Lib.OthersKept': every block that is not b and is no row of uint8's stands as it stood: the iterator of a range among them. (LAID: no walk: one application.) -/
theorem Tryd.Builder_String_any_k (B b : Nat) (l : List UInt8) (w : World) (h : Lib.IsBuilderF 112 5 B b (Lib.byteCells l) w) (hBw : B ≤ w.heap.size) :
    Calls Tryd.prog 80 #[.pointer (some ⟨b, 0, none⟩)] w fun e w' => e = .returned (.string ⟨l.toArray⟩) ∧ (Lib.IsBuilderF 112 5 B b (Lib.byteCells l) w' ∧ Below B w w' ∧ Lib.OthersKept 5 (some b) w w') := Any.Builder_String_any_k Tryd.lays169 Tryd.Builder_Extra_169 B b l w h hBw
def Tryd.lays217_ren : Go.Shelf.Ren := ⟨fun | 217 => 104 | 266 => 118 | n => n, fun | 9 => 9 | 5 => 5 | 3 => 3 | n => n, fun | n => n⟩
theorem Tryd.lays217 : Go.Proofs.Lays.n217 Tryd.prog Tryd.lays217_ren := {
  mixed := by kernel_rfl
  f217 := Tryd.func104.trans (congrArg some (by kernel_rfl))
  f266 := Tryd.func118.trans (congrArg some (by kernel_rfl))
  t3 := Tryd.underlying3
  a3 := Tryd.isAgg3
  z3 := Tryd.sizeOf3
  v3 := Tryd.zeroValue3
  t5 := Tryd.underlying5
  a5 := Tryd.isAgg5
  z5 := Tryd.sizeOf5
  v5 := Tryd.zeroValue5
  t9 := Tryd.underlying9
  a9 := Tryd.isAgg9
  z9 := Tryd.sizeOf9
  v9 := Tryd.zeroValue9 }
open Go.RowKit Go.Lib in
/-- internal/stringslite.IndexByte (what strings.IndexByte calls): IT RETURNS 'Lib.indexByte s c'; the world is as it was. (LAID: no walk: one application.) -/
theorem Tryd.stringslite_IndexByte (s : ByteArray) (c : Int) (w : World) :
    Calls Tryd.prog 104 #[.string s, .int .u8 c] w fun e w' => e = .returned (.int .i64 (Lib.indexByte s.data.toList c.toNat.toUInt8)) ∧ w' = w := Any.stringslite_IndexByte Tryd.lays217 s c w
end Go.Proofs.YtahmioiefmheeaaDoor

namespace Go.Proofs.YtahmioiefmheeaaDoor
open Go.RowKit

/-- The digit of a number below 16. -/
def hd (n : Int) : UInt8 := if n < 10 then UInt8.ofNat (48 + n.toNat) else UInt8.ofNat (87 + n.toNat)
/-- Bytes as digits. -/
def hexU (l : List Int) : List UInt8 := l.flatMap fun b => [hd (b / 16), hd (b % 16)]
theorem hexU_len (l : List Int) : (hexU l).length = 2 * l.length := by
  induction l with
  | nil => rfl
  | cons b l ih =>
    have : hexU (b :: l) = [hd (b / 16), hd (b % 16)] ++ hexU l := rfl
    rw [this, List.length_append, ih]
    simp
    omega
theorem hexU_snoc (l : List Int) (b : Int) : hexU (l ++ [b]) = hexU l ++ [hd (b / 16), hd (b % 16)] := by simp [hexU]
abbrev hexs : Value := .string ⟨#[48, 49, 50, 51, 52, 53, 54, 55, 56, 57, 97, 98, 99, 100, 101, 102]⟩
theorem idx16 (x : Int) (h0 : 0 ≤ x) (h1 : x < 16) (w : World) : (Instr.index 9 hexs (.int .u8 x)).run Tryd.prog w = .ok (.int .u8 (hd x).toNat) w := by
  obtain ⟨n, rfl⟩ : ∃ n : Nat, x = n := ⟨x.toNat, by omega⟩
  have hn : n < 16 := by omega
  have key : ∀ k, k < 16 → (Instr.index 9 hexs (.int .u8 (k : Nat))).run Tryd.prog w = .ok (.int .u8 (hd (k : Nat)).toNat) w := by
    intro k hk
    match k, hk with
    | 0, _ => exact (show (Instr.index 9 hexs (.int .u8 0)).run Tryd.prog w = .ok (.int .u8 48) w by kernel_rfl)
    | 1, _ => exact (show (Instr.index 9 hexs (.int .u8 1)).run Tryd.prog w = .ok (.int .u8 49) w by kernel_rfl)
    | 2, _ => exact (show (Instr.index 9 hexs (.int .u8 2)).run Tryd.prog w = .ok (.int .u8 50) w by kernel_rfl)
    | 3, _ => exact (show (Instr.index 9 hexs (.int .u8 3)).run Tryd.prog w = .ok (.int .u8 51) w by kernel_rfl)
    | 4, _ => exact (show (Instr.index 9 hexs (.int .u8 4)).run Tryd.prog w = .ok (.int .u8 52) w by kernel_rfl)
    | 5, _ => exact (show (Instr.index 9 hexs (.int .u8 5)).run Tryd.prog w = .ok (.int .u8 53) w by kernel_rfl)
    | 6, _ => exact (show (Instr.index 9 hexs (.int .u8 6)).run Tryd.prog w = .ok (.int .u8 54) w by kernel_rfl)
    | 7, _ => exact (show (Instr.index 9 hexs (.int .u8 7)).run Tryd.prog w = .ok (.int .u8 55) w by kernel_rfl)
    | 8, _ => exact (show (Instr.index 9 hexs (.int .u8 8)).run Tryd.prog w = .ok (.int .u8 56) w by kernel_rfl)
    | 9, _ => exact (show (Instr.index 9 hexs (.int .u8 9)).run Tryd.prog w = .ok (.int .u8 57) w by kernel_rfl)
    | 10, _ => exact (show (Instr.index 9 hexs (.int .u8 10)).run Tryd.prog w = .ok (.int .u8 97) w by kernel_rfl)
    | 11, _ => exact (show (Instr.index 9 hexs (.int .u8 11)).run Tryd.prog w = .ok (.int .u8 98) w by kernel_rfl)
    | 12, _ => exact (show (Instr.index 9 hexs (.int .u8 12)).run Tryd.prog w = .ok (.int .u8 99) w by kernel_rfl)
    | 13, _ => exact (show (Instr.index 9 hexs (.int .u8 13)).run Tryd.prog w = .ok (.int .u8 100) w by kernel_rfl)
    | 14, _ => exact (show (Instr.index 9 hexs (.int .u8 14)).run Tryd.prog w = .ok (.int .u8 101) w by kernel_rfl)
    | 15, _ => exact (show (Instr.index 9 hexs (.int .u8 15)).run Tryd.prog w = .ok (.int .u8 102) w by kernel_rfl)
    | k + 16, hk => exact absurd hk (by omega)
  exact key n hn
theorem and15 (x : Int) (h0 : 0 ≤ x) (h1 : x ≤ 255) : bits .and .u8 x 15 = x % 16 := by
  rw [u8_and x 15 h0 (by omega) (by decide) (by decide)]
  rw [show (15 : Int).toNat = 15 from rfl, nat_mask4]
  omega
theorem cells_one (c : UInt8) : [Value.int .u8 (c.toNat : Int)] = Lib.byteCells [c] := rfl
set_option maxRecDepth 100000 in
set_option maxHeartbeats 1000000 in
theorem hex_any (M : Nat) (v : Value) (l : List Int) (w : World) (h : HoldsB w M v l) (hl : 2 * l.length ≤ 100000000000000) :
    Calls Tryd.prog 20 #[v] w fun r w' => r = .returned (.string ⟨(hexU l).toArray⟩) ∧ Below w.heap.size w w' := by
  obtain ⟨a, len, cap, rfl, hn⟩ := h.slice
  have H := Kp.mk h
  have HN := Kp.mk hn
  have hb : len ≤ 50000000000000 := by omega
  clear h hn hl
  go_enter Tryd.func20, Tryd.ntmps20
  go_wp2_with fail
  rw [show (2 * (len : Int)) = ((2 * len : Nat) : Int) by omega]
  refine (Tryd.Builder_Grow_fresh w.heap.size w.heap.size (2 * len) _ (Nat.le_refl _) (Blk.newAt (w := w) (.cells #[.pointer none, .slice none 0 0] 112) rfl) (by simp) (by omega)).mono ?_
  rintro r w2 ⟨rfl, h1, h2⟩
  have H1 : Kp (Bd w.heap.size w.heap.size [] w2) := ⟨h1⟩
  have H2 : Kp (Below w.heap.size w w2) := ⟨(more (Below.refl _ _) _).trans h2⟩
  clear h1 h2
  go_wp2_with fail
  go_loopw [12] (fun c wr => ∃ k : Nat, k ≤ len ∧ c = .int .i64 k ∧ Bd w.heap.size w.heap.size (Lib.byteCells (hexU (l.take k))) wr ∧ Below w.heap.size w wr) (fun c _ => len - (intOf c).toNat)
  case atStart => exact ⟨0, by omega, rfl, H1.out, H2.out⟩
  case round =>
    obtain ⟨k, hk, rfl, h1, h2⟩ := hrel
    have G1 := Kp.mk h1
    have G2 := Kp.mk h2
    clear h1 h2 H1 H2
    by_cases hlt : k < len
    · obtain ⟨b, off, rfl, -, c0⟩ := (H.out.keep G2.out).cellAt (i := k) (by have := HN.out; omega)
      have hx := H.out.bytes.at (i := k) (by have := HN.out; omega)
      have HT : Kp (l.take (k + 1) = l.take k ++ [l.getD k 0]) := ⟨by
        have hl : k < l.length := by have := HN.out; omega
        rw [List.take_succ_eq_append_getElem hl, List.getD_eq_getElem?_getD, List.getElem?_eq_getElem hl]; rfl⟩
      have HLk : Kp ((l.take k).length = k) := ⟨by rw [List.length_take]; have := HN.out; omega⟩
      generalize l.getD k 0 = x at *
      obtain ⟨hx0, hx1⟩ := hx
      have i1 := idx16 (x / 16) (by omega) (by omega)
      have i2 := idx16 (x % 16) (by omega) (by omega)
      have a1 := and15 x hx0 hx1
      go_wp2_with fail
      refine (writeByte w.heap.size w.heap.size (Lib.byteCells (hexU (l.take k))) _ wr G1.out (by rw [Lib.byteCells_length, hexU_len, HLk.out]; omega) G2.out.size).mono ?_
      rintro r w3 ⟨rfl, h1, h2⟩
      have F1 := Kp.mk h1
      have F2 : Kp (Below w.heap.size w w3) := ⟨G2.out.trans h2⟩
      clear h1 h2
      go_wp2_with fail
      refine (writeByte w.heap.size w.heap.size (Lib.byteCells (hexU (l.take k)) ++ [.int .u8 (hd (x / 16)).toNat]) _ w3 F1.out (by rw [List.length_append, Lib.byteCells_length, hexU_len, HLk.out]; simp; omega) F2.out.size).mono ?_
      rintro r w4 ⟨rfl, h1, h2⟩
      have E1 := Kp.mk h1
      have E2 : Kp (Below w.heap.size w w4) := ⟨F2.out.trans h2⟩
      clear h1 h2
      go_wp2_with fail
      refine ⟨⟨k + 1, by omega, by go_num, ?_, E2.out⟩, by simp [intOf]; omega⟩
      have h := E1.out
      rw [HT.out, hexU_snoc, Lib.byteCells_append]
      rw [List.append_assoc] at h
      exact h
    · have HK : Kp (k = len) := ⟨by omega⟩
      have hge : (len : Int) ≤ k := by omega
      have HLk : Kp (l.take k = l) := ⟨by rw [HK.out, List.take_of_length_le]; have := HN.out; omega⟩
      clear hlt hk
      go_wp2_with fail
      refine (Tryd.Builder_String_any w.heap.size w.heap.size (hexU (l.take k)) _ (Or.inr G1.out) G2.out.size).mono ?_
      rintro r w3 ⟨rfl, h2⟩
      have F2 : Kp (Below w.heap.size w w3) := ⟨G2.out.trans h2⟩
      clear h2
      go_wp2_with fail
      go_ret
      rw [HLk.out]
      exact ⟨rfl, F2.out⟩
end Go.Proofs.YtahmioiefmheeaaDoor
