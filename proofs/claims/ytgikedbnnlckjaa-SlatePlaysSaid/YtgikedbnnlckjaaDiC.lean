/-
  layer 15: sum, put.
-/
import Derived.Test.YtgikedbnnlckjaaDiB
namespace Go.Proofs.Ytgikedbnnlckjaa
open Go.RowKit

def sumL (l : List Int) : Int := l.foldl (fun n x => n + x) 0
theorem sumL_snoc (l : List Int) (x : Int) : sumL (l ++ [x]) = sumL l + x := by simp [sumL]
theorem sumG_bd : ∀ (l : List Int) (acc : Int), 0 ≤ acc → Bytes l → acc ≤ l.foldl (fun n x => n + x) acc ∧ l.foldl (fun n x => n + x) acc ≤ acc + 255 * l.length
  | [], acc, _, _ => by simp
  | x :: r, acc, h, hb => by
    have hx := hb x (by simp)
    have := sumG_bd r (acc + x) (by omega) (fun y hy => hb y (by simp [hy]))
    rw [List.foldl_cons, List.length_cons]
    omega
theorem sumL_bd (l : List Int) (h : Bytes l) : 0 ≤ sumL l ∧ sumL l ≤ 255 * l.length := by
  have := sumG_bd l 0 (by omega) h
  unfold sumL
  omega
set_option maxRecDepth 100000 in
set_option maxHeartbeats 400000 in
theorem sum_any (z : List Int) (w : World) (hz : z.length = 64) (hzb : Bytes z) : Calls Try.prog 65 #[sec z] w fun r w' => r = .returned (.int .u32 (sumL (z.take 58))) ∧ Below w.heap.size w w' := by
  have HZ := Kp.mk hz
  have HZB := Kp.mk hzb
  have hC := fun (w : World) => box_row (t := 35) (cs := kv .u8 z) (cells35 hz) w
  clear hz hzb
  go_enter Try.func65, Try.ntmps65
  go_wp2_with (refine wpList_box_eq rfl 35 (.tmp 0) rfl _ rfl _ _ (hC _) ?_; refine wpl_world (fun w2 => Row w2 w.heap.size 35 .u8 z ∧ Below w.heap.size w w2) ⟨Blk.new _ _, more (Below.refl _ _) _⟩ ?_; rintro W2 ⟨h1, h2⟩; have K1 := Kp.mk h1; have K2 := Kp.mk h2; clear h1 h2)
  clear hC
  go_loop [3, 8] (fun n i => ∃ k : Nat, k ≤ 58 ∧ i = .int .i64 k ∧ n = .int .u32 (sumL (z.take k))) (fun _ i => 58 - (intOf i).toNat)
  case atStart => exact ⟨0, Nat.zero_le _, rfl, rfl⟩
  case round =>
    obtain ⟨k, hk, rfl, rfl⟩ := hrel
    by_cases hlt : k < 58
    · have hlt' : (k : Int) < (58 : Int) := by omega
      have hkl : k < z.length := by rw [HZ.out]; omega
      obtain ⟨n, hn⟩ : ∃ n, n = sumL (z.take k) := ⟨_, rfl⟩
      obtain ⟨x, hx⟩ : ∃ x, x = z[k] := ⟨_, rfl⟩
      have hcx : W2.cell? ⟨w.heap.size, k, none⟩ = some (.int .u8 x) := by
        rw [Blk.cell K1.out k, List.getElem?_toArray, List.getElem?_map, List.getElem?_eq_getElem hkl, ← hx]; rfl
      have hxb := HZB.out x (by rw [hx]; exact List.getElem_mem _)
      have hxb0 := hxb.1
      have hxb1 := hxb.2
      obtain ⟨n0, n1⟩ := sumL_bd (z.take k) (HZB.out.take k)
      rw [List.length_take] at n1
      rw [← hn] at n0 n1 ⊢
      have n2 : n ≤ 14790 := by omega
      have HE : Kp (sumL (z.take (k + 1)) = n + x) := ⟨by rw [List.take_add_one, List.getElem?_eq_getElem hkl, ← hx]; simp only [Option.toList_some]; rw [sumL_snoc, ← hn]⟩
      clear hx hn n1 hkl hxb
      go_wp2
      clear hcx
      go_round
      case rel => exact ⟨k + 1, by omega, by go_num, by rw [HE.out]⟩
      case measure => simp [intOf] <;> omega
    · obtain rfl : k = 58 := by omega
      go_wp2
      go_ret
      exact ⟨rfl, K2.out⟩
/-- A row behind j rounds of put: the last j of len places from off on are the lowest bytes of n. -/
def putR (l : List Int) (off len : Nat) (n : Int) (j : Nat) : List Int := (List.range l.length).map fun i => if off + len ≤ i + j ∧ i < off + len then n / 256 ^ (off + len - 1 - i) % 256 else l.getD i 0
theorem putR_len (l : List Int) (off len : Nat) (n : Int) (j : Nat) : (putR l off len n j).length = l.length := by simp [putR]
theorem putR_zero (l : List Int) (off len : Nat) (n : Int) : putR l off len n 0 = l := by
  apply List.ext_getElem (by simp [putR])
  intro i h1 h2
  simp only [putR, List.getElem_map, List.getElem_range]
  rw [if_neg (by omega), List.getD_eq_getElem?_getD, List.getElem?_eq_getElem h2]
  rfl
theorem putR_succ {l : List Int} {off len : Nat} {n : Int} {j m : Nat} (h : j + m + 1 = len) (hl : off + len ≤ l.length) : (putR l off len n j).set (off + m) (n / 256 ^ j % 256) = putR l off len n (j + 1) := by
  apply List.ext_getElem (by simp [putR])
  intro i h1 h2
  rw [List.getElem_set]
  simp only [putR, List.getElem_map, List.getElem_range]
  by_cases e : off + m = i
  · subst e
    rw [if_pos rfl, if_pos (by omega), show off + len - 1 - (off + m) = j by omega]
  · rw [if_neg e]
    by_cases e2 : off + len ≤ i + j ∧ i < off + len
    · rw [if_pos e2, if_pos (by omega)]
    · rw [if_neg e2, if_neg (by omega)]
theorem putR_bytes {l : List Int} (h : Bytes l) (off len : Nat) (n : Int) (j : Nat) : Bytes (putR l off len n j) := by
  intro x hx
  obtain ⟨i, hi, rfl⟩ := List.mem_map.1 hx
  have hi := List.mem_range.1 hi
  split
  · omega
  · rw [List.getD_eq_getElem?_getD, List.getElem?_eq_getElem hi]
    exact h _ (List.getElem_mem _)
def putL (l : List Int) (off len : Nat) (n : Int) : List Int := putR l off len n len
set_option maxRecDepth 100000 in
set_option maxHeartbeats 800000 in
theorem put_any (b off len cap : Nat) (n : Int) (t : TypeId) (l : List Int) (w : World) (h : Row w b t .u8 l) (hl : off + len ≤ l.length) (hlen : len ≤ 64) (hn : 0 ≤ n ∧ n < 4294967296) :
    Calls Try.prog 64 #[.slice (some ⟨b, off, none⟩) len cap, .int .u32 n] w fun r w' => (∃ v, r = .returned v) ∧ Turn b (.cells (kv .u8 (putL l off len n)).toArray t) w w' := by
  have H := Kp.mk h
  have HL := Kp.mk hl
  clear h
  go_enter Try.func64, Try.ntmps64
  go_wp2
  go_loopw [1, 4] (fun v i wr => ∃ j : Nat, ((∃ m : Nat, j + m + 1 = len ∧ i = .int .i64 m) ∨ (j = len ∧ i = .int .i64 (-1))) ∧ v = .int .u32 (n / 256 ^ j) ∧ Turn b (.cells (kv .u8 (putR l off len n j)).toArray t) w wr) (fun _ i _ => (intOf i + 1).toNat)
  case atStart =>
    refine ⟨0, ?_, by simp, by rw [putR_zero]; exact Turn.same H.out⟩
    cases len with
    | zero => exact .inr ⟨rfl, by simp⟩
    | succ m => exact .inl ⟨m, by omega, by go_num⟩
  case round =>
    obtain ⟨j, hi, rfl, hT⟩ := hrel
    have HT := Kp.mk hT
    clear hT
    rcases hi with ⟨m, hm, rfl⟩ | ⟨hj, rfl⟩
    · have HM : Kp (j + m + 1 = len) := ⟨hm⟩
      obtain ⟨q, hq⟩ : ∃ q, q = n / 256 ^ j := ⟨_, rfl⟩
      have hq0 : 0 ≤ q := by rw [hq]; exact Int.ediv_nonneg hn.1 (Int.pow_nonneg (by decide))
      have hq1 : q < 4294967296 := by
        have : n / 256 ^ j ≤ n := Int.ediv_le_self _ hn.1
        omega
      have HQ : Kp (n / 256 ^ (j + 1) = q / 256) := ⟨by rw [hq, Int.pow_succ, Int.ediv_ediv_of_nonneg (Int.pow_nonneg (by decide))]⟩
      have HP : Kp ((putR l off len n j).set (off + m) (q % 256) = putR l off len n (j + 1)) := ⟨by rw [hq]; exact putR_succ hm HL.out⟩
      have hmi : (m : Int) < (len : Int) := by omega
      have hlt : off + m < (putR l off len n j).length := by rw [putR_len]; omega
      have hc := (show Row wr b t .u8 (putR l off len n j) from HT.out.blk).cell hlt
      have hf := Row.frozen (show Row wr b t .u8 (putR l off len n j) from HT.out.blk) (off + m)
      rw [← hq]
      have HTS : Kp (∀ W, W = wr.setCell ⟨b, off + m, none⟩ (.int .u8 (q % 256)) → Turn b (.cells (kv .u8 (putR l off len n (j + 1))).toArray t) w W) := ⟨by
        rintro W rfl
        have := HT.out.set (off + m) (.int .u8 (q % 256))
        rw [← HP.out]
        refine this.as ?_
        congr 1
        apply Array.toList_inj.1
        simp [List.map_set]⟩
      clear hq hlt hm hl hn
      go_wp2
      go_roundw
      case rel =>
        refine ⟨j + 1, ?_, by rw [HQ.out], HTS.out _ rfl⟩
        have := HM.out
        cases m with
        | zero => exact .inr ⟨by omega, by simp⟩
        | succ m => exact .inl ⟨m, by omega, by go_num⟩
      case measure => simp [intOf] <;> omega
    · have HJ := Kp.mk hj
      clear hj
      go_wp2
      go_end0
      exact ⟨⟨_, rfl⟩, by unfold putL; have h := HT.out; rw [HJ.out] at h; exact h⟩
end Go.Proofs.Ytgikedbnnlckjaa
