/-
  Rows of short sums (Sums).
-/
import Derived.Test.YtgabjmmmiogfjaaDoorFuB
import Derived.IntWalk
namespace Go.Proofs.YtgabjmmmiogfjaaDoor
open Go.RowKit

/-- The row of n short sums behind i rounds. -/
def sumsRow (p : List Int) (n i : Nat) : List Int := p.take (i * 16) ++ List.replicate ((n - i) * 16) 0
theorem sumsRow_len {p : List Int} {n i : Nat} (h : p.length = n * 16) (hi : i ≤ n) : (sumsRow p n i).length = n * 16 := by
  unfold sumsRow
  rw [List.length_append, List.length_take, List.length_replicate, Nat.min_eq_left (by omega), Nat.sub_mul]
  omega
theorem splice_mid {α : Type} (A Z X : List α) (k : Nat) (hk : A.length = k) : splice (A ++ Z) k X = A ++ (X ++ Z.drop X.length) := by
  subst hk
  unfold splice
  rw [List.take_left, List.drop_append, List.drop_eq_nil_of_le (by omega), List.nil_append, show A.length + X.length - A.length = X.length by omega]
theorem sumsRow_step {p : List Int} {n i : Nat} (h : p.length = n * 16) (hi : i < n) : splice (bv (sumsRow p n i)) (i * 16) (bv ((p.drop (i * 16)).take 16)) = bv (sumsRow p n (i + 1)) := by
  have h1 : ((p.drop (i * 16)).take 16).length = 16 := by rw [List.length_take, List.length_drop]; omega
  unfold sumsRow bv
  rw [List.map_append, splice_mid _ _ _ (i * 16) (by rw [List.length_map, List.length_take]; omega), List.length_map, h1, ← List.map_drop, List.drop_replicate, ← List.map_append, ← List.map_append, ← List.append_assoc,
    show (n - i) * 16 - 16 = (n - (i + 1)) * 16 by rw [Nat.sub_mul, Nat.sub_mul]; omega, show (i + 1) * 16 = i * 16 + 16 by omega, List.take_add]
theorem sumsRow_all {p : List Int} {n : Nat} (h : p.length = n * 16) : sumsRow p n n = p := by
  unfold sumsRow
  rw [Nat.sub_self, Nat.zero_mul, List.replicate_zero, List.append_nil, List.take_of_length_le (by omega)]
theorem sumsRow_none {p : List Int} {n : Nat} : sumsRow p n 0 = List.replicate (n * 16) 0 := by
  simp [sumsRow]
theorem made16 (n : Nat) : madeCells #[.int .u8 0, .int .u8 0, .int .u8 0, .int .u8 0, .int .u8 0, .int .u8 0, .int .u8 0, .int .u8 0, .int .u8 0, .int .u8 0, .int .u8 0, .int .u8 0, .int .u8 0, .int .u8 0, .int .u8 0, .int .u8 0] n = (bv (List.replicate n 0)).toArray := by
  apply Array.ext_getElem?
  intro j
  by_cases hj : j < n
  · have h16 : j % 16 < 16 := Nat.mod_lt _ (by decide)
    have : ∀ k, k < 16 → (#[Value.int .u8 0, .int .u8 0, .int .u8 0, .int .u8 0, .int .u8 0, .int .u8 0, .int .u8 0, .int .u8 0, .int .u8 0, .int .u8 0, .int .u8 0, .int .u8 0, .int .u8 0, .int .u8 0, .int .u8 0, .int .u8 0] : Array Value)[k]! = .int .u8 0 := by
      intro k hk
      have hk' : k = 0 ∨ k = 1 ∨ k = 2 ∨ k = 3 ∨ k = 4 ∨ k = 5 ∨ k = 6 ∨ k = 7 ∨ k = 8 ∨ k = 9 ∨ k = 10 ∨ k = 11 ∨ k = 12 ∨ k = 13 ∨ k = 14 ∨ k = 15 := by omega
      rcases hk' with rfl | rfl | rfl | rfl | rfl | rfl | rfl | rfl | rfl | rfl | rfl | rfl | rfl | rfl | rfl | rfl <;> rfl
    have hh := this (j % 16) h16
    simp [madeCells, hj]
    simpa using hh
  · simp [madeCells, hj]
theorem make51 (n : Nat) (hn : n ≤ 65535) (w : World) : (Instr.makeSlice 111 (.int .i64 n) (.int .i64 n)).run Tryd.prog w = .ok (.slice (some ⟨w.heap.size, 0, none⟩) n n) (w.alloc (.cells (bv (List.replicate (n * 16) 0)).toArray 83)) := by
  obtain ⟨i0, hi, hz0, hz1, hz2⟩ := info_parts info51'
  have h := run_make (P := Tryd.prog) w 111 83 i0 _ Tryd.underlying111 hi hz0 .i64 .i64 n n (by omega) (Int.le_refl _) (by rw [hz2]; omega) (by omega)
  rw [h, ← made16, hz1]
  simp [Value.cells, Int.toNat_natCast]
theorem posRow {w : World} {M A off k : Nat} {a : Option Addr} {n cap : Nat} {l : List Int} (h : HoldsB w M (.slice a n cap) l) (h0 : 0 < (bv (l.take k)).length) :
    (some (⟨A, off, none⟩ : Addr)) = some ⟨A, off, none⟩ ∧ ∃ ad, a = some ad ∧ ∀ j u, (bv (l.take k))[j]? = some u → w.cell? (ad.add j) = some u := by
  refine ⟨rfl, ?_⟩
  obtain ⟨ad, ha, hc⟩ := h.source (by rw [List.length_map, List.length_take] at h0; rw [List.length_map]; omega)
  refine ⟨ad, ha, fun j u hu => hc j u ?_⟩
  unfold bv at hu
  rw [List.map_take, List.getElem?_take] at hu
  split at hu
  · exact hu
  · cases hu
/-- The slice v holds n short sums, whose bytes are l, in a row of its own from base on. -/
def sumsN (l : List Int) (e : Int) (most : Int) : Nat := (manyR l e 1 most).toNat * 16
def sumsP (l : List Int) (e : Int) (most : Int) : List Int := nextP (manyL l e 1 most) (manyE l e 1 most) (sumsN l e most)
def sumsL (l : List Int) (e : Int) (most : Int) : List Int := nextL (manyL l e 1 most) (manyE l e 1 most) (sumsN l e most)
def sumsE (l : List Int) (e : Int) (most : Int) : Int := nextE (manyL l e 1 most) (manyE l e 1 most) (sumsN l e most)
theorem nextP_16 (l : List Int) (e : Int) (k : Nat) : ∃ n, n ≤ k ∧ (nextP l e (k * 16)).length = n * 16 := by
  unfold nextP
  split
  · exact ⟨k, Nat.le_refl _, by rw [List.length_take]; omega⟩
  · exact ⟨0, Nat.zero_le _, by simp⟩
set_option maxHeartbeats 1600000 in
theorem sums_any (M I : Nat) (l : List Int) (e : Int) (most : Int) (w : World) (h : InIs w M I l e) (hm0 : -9223372036854775808 ≤ most) (hm1 : most ≤ 9223372036854775807) :
    Calls Tryd.prog 93 #[.pointer (some ⟨I, 0, none⟩), .int .i64 most] w fun r w' => ∃ v n, r = .returned v ∧ (sumsP l e most).length = n * 16 ∧ n ≤ 65535 ∧ w'.ownsRow w.heap.size 83 16 v n (bv (sumsP l e most)) ∧ InStep M I (sumsL l e most) (sumsE l e most) w w' := by
  have HH := Lib.hid h
  have HR := Lib.hid (manyR_range (e := e) (k := 1) (most := most) h.bytes (by omega))
  clear h
  have HB : Hid (sumsP l e most = nextP (manyL l e 1 most) (manyE l e 1 most) ((manyR l e 1 most).toNat * 16) ∧ sumsL l e most = nextL (manyL l e 1 most) (manyE l e 1 most) ((manyR l e 1 most).toNat * 16) ∧
      sumsE l e most = nextE (manyL l e 1 most) (manyE l e 1 most) ((manyR l e 1 most).toNat * 16)) := ⟨rfl, rfl, rfl⟩
  have HC : Hid (Calls Tryd.prog 106 #[.pointer (some ⟨I, 0, none⟩), .int .i64 1, .int .i64 most] w fun r w' => r = .returned (.int .i64 (manyR l e 1 most)) ∧ InStep M I (manyL l e 1 most) (manyE l e 1 most) w w') :=
    many_any M I l e 1 most _ HH.out (by omega) hm0 hm1
  generalize sumsP l e most = sp at HB ⊢
  generalize sumsL l e most = sl at HB ⊢
  generalize sumsE l e most = se at HB ⊢
  generalize manyL l e 1 most = lm at HB HC
  generalize manyE l e 1 most = em at HB HC
  generalize manyR l e 1 most = rm at HB HC HR
  obtain ⟨k, rfl⟩ : ∃ k : Nat, rm = k := ⟨rm.toNat, by have := HR.out; omega⟩
  have hk : k ≤ 65535 := by have := HR.out; omega
  go_enter Tryd.func93, Tryd.ntmps93
  go_wp2_with fail
  refine HC.out.mono ?_
  rintro r w1 ⟨rfl, h1⟩
  have H1 := Lib.hid h1
  clear h1
  go_wp2_with fail
  have hc := next_any M I lm em (k * 16) _ H1.out.is (by omega)
  have e16 : (((k * 16 : Nat)) : Int) = 16 * (k : Int) := by omega
  rw [e16] at hc
  refine hc.mono ?_
  clear hc
  rintro r w2 ⟨v, rfl, hv, h2⟩
  obtain ⟨n, hnk, hn⟩ := nextP_16 lm em k
  have hB := HB.out
  rw [Int.toNat_natCast] at hB
  obtain ⟨hb1, hb2, hb3⟩ := hB
  rw [← hb1] at hv hn
  rw [← hb2, ← hb3] at h2
  have H2 := Lib.hid (H1.out.trans h2)
  obtain ⟨a, L, cap, rfl, hL⟩ := hv.slice
  have HV := Lib.hid hv
  have hLn : L = n * 16 := by omega
  have hq : (L : Int) / 16 = (n : Int) := by omega
  have hn6 : n ≤ 65535 := by omega
  have HLN := Lib.hid hLn
  have HN := Lib.hid hn
  have hmk := make51 n hn6
  have hL1 : L ≤ 1048560 := by omega
  clear hv h2 hL hb1 hb2 hb3 HB HC HR e16 hLn hn
  go_wp2_with fail
  have hstart : Blk (w2.alloc (.cells (Array.replicate (n * 16) (.int .u8 0)) 83)) w2.heap.size (.cells (bv (sumsRow sp n 0)).toArray 83) := by
    rw [sumsRow_none]
    have e : (bv (List.replicate (n * 16) 0)).toArray = Array.replicate (n * 16) (.int .u8 0) := by simp [bv]
    rw [e]
    exact Blk.new _ _
  have HST := Lib.hid (And.intro hstart (And.intro (more (Below.refl _ w2) (.cells (Array.replicate (n * 16) (.int .u8 0)) 83)) (show w2.heap.size + 1 ≤ (w2.alloc (.cells (Array.replicate (n * 16) (.int .u8 0)) 83)).heap.size by simp)))
  clear hstart
  revert HST
  generalize w2.alloc (.cells (Array.replicate (n * 16) (.int .u8 0)) 83) = W3
  intro HST
  have HS2 := Lib.hid H2.out.size
  go_loopw [20] (fun c wr => ∃ i : Nat, i ≤ n ∧ c = .int .i64 i ∧ Blk wr w2.heap.size (.cells (bv (sumsRow sp n i)).toArray 83) ∧ Below w2.heap.size w2 wr ∧ w2.heap.size + 1 ≤ wr.heap.size) (fun c _ => n - (intOf c).toNat)
  case atStart => exact ⟨0, by omega, rfl, HST.out⟩
  case round =>
    obtain ⟨i, hi, rfl, hb, hE, hS⟩ := hrel
    have HBL := Lib.hid hb
    have HE := Lib.hid hE
    clear hb hE
    by_cases hlt : i < n
    · obtain ⟨v', hv', hp'⟩ := (HV.out.keep HE.out).back (k := i * 16) (by have := HN.out; omega)
      obtain ⟨a', n', cap', rfl, hn'⟩ := hp'.slice
      have e16 : (((i * 16 : Nat)) : Int) = 16 * (i : Int) := by omega
      rw [e16] at hv'
      have hn16 : 16 ≤ n' := by
        rw [List.length_drop, HN.out] at hn'
        omega
      have HP' := Lib.hid hp'
      have hw16 : IntKind.i64.wrap (16 * (i : Int)) = 16 * (i : Int) := IntWalk.i64_in _ (by omega)
      have HCN : Hid ((bv ((sp.drop (i * 16)).take 16)).length = Nat.min n' 16) := by
        unfold Hid
        rw [List.length_map, List.length_take, ← hn', Nat.min_comm]
      have HFIT : Hid (i * 16 + (bv ((sp.drop (i * 16)).take 16)).length ≤ (bv (sumsRow sp n i)).length) := by
        unfold Hid
        rw [List.length_map, List.length_map, sumsRow_len HN.out hi, List.length_take, ← hn', Nat.min_eq_left hn16]
        omega
      have HSTEP := Lib.hid (sumsRow_step HN.out hlt)
      clear hp' e16 hn'
      go_wp2_with fail
      go_region_law (refine step_copy_splice rfl (.tmp 26) (.tmp 30) 24 24 rfl 5 Tryd.underlying24 (by kernel_rfl) (some ⟨w2.heap.size, i * 16, none⟩) a' 16 16 n' cap' (by simp [Act.eval, Act.put]) (by simp [Act.eval, Act.put]) w2.heap.size (i * 16) (bv (sumsRow sp n i)) 83 HBL.out (bv ((sp.drop (i * 16)).take 16)) HCN.out (posRow HP'.out) HFIT.out (bv_one _) w2.heap.size w2 HE.out.drew (Nat.le_refl _) ?_; intro w4 hg4 hb4)
      all_goals
        have HG4 := hg4
        have HB4 := Lib.hid hb4
        clear hg4 hb4
        go_wp2_with fail
        exact ⟨⟨i + 1, by omega, by go_num, by have := HG4.out; rw [HSTEP.out] at this; exact this, HB4.out, Blk.lt (o := .cells (splice (bv (sumsRow sp n i)) (i * 16) (bv ((sp.drop (i * 16)).take 16))).toArray 83) HG4.out⟩, by simp [intOf]; omega⟩
    · obtain rfl : i = n := by omega
      have HALL := Lib.hid (sumsRow_all HN.out)
      go_wp2_with fail
      go_ret
      have hb := HBL.out
      rw [HALL.out] at hb
      have hn := HN.out
      refine ⟨_, i, rfl, hn, hn6, ⟨by rw [List.length_map, hn], .inr ⟨w2.heap.size, i, (bv sp).toArray, rfl, HS2.out, hb, Nat.le_refl _, by unfold maxLen; omega, by simp [hn], ?_⟩⟩, H2.out.more HE.out⟩
      rw [List.take_of_length_le (by simp [hn])]
end Go.Proofs.YtgabjmmmiogfjaaDoor
