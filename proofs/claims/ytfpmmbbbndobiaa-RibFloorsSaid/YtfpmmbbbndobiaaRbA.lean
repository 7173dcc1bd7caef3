/-
  Rows of equal parts; offers and tables as cells.
-/
import Derived.Test.YtfpmmbbbndobiaaBase
import Derived.Test.YtfpmmbbbndobiaaFlowV
import Derived.Laws.CopyOwn
import Derived.IntWalk
namespace Go.Proofs.Ytfpmmbbbndobiaa
open Go.RowKit

/-- n parts, one behind the other. -/
def cat {α : Type} (f : Nat → List α) : Nat → List α
  | 0 => []
  | n + 1 => cat f n ++ f n
theorem cat_len {α : Type} {f : Nat → List α} {L : Nat} (h : ∀ i, (f i).length = L) : ∀ n, (cat f n).length = n * L
  | 0 => by simp [cat]
  | n + 1 => by rw [cat, List.length_append, cat_len h n, h n, Nat.succ_mul]
theorem mul_in {i n L k : Nat} (hi : i < n) (hk : k < L) : i * L + k < n * L := by
  have h1 : (i + 1) * L ≤ n * L := Nat.mul_le_mul_right L hi
  rw [Nat.succ_mul] at h1
  omega
theorem cat_at {α : Type} {f : Nat → List α} {L : Nat} (h : ∀ i, (f i).length = L) : ∀ {n i k : Nat}, i < n → k < L → (cat f n)[i * L + k]? = (f i)[k]?
  | 0, _, _, hi, _ => by omega
  | n + 1, i, k, hi, hk => by
    rw [cat]
    by_cases h1 : i < n
    · rw [List.getElem?_append_left (by rw [cat_len h n]; exact mul_in h1 hk)]
      exact cat_at h h1 hk
    · obtain rfl : i = n := by omega
      rw [List.getElem?_append_right (by rw [cat_len h i]; omega), cat_len h i]
      congr 1
      omega
theorem cat_congr {α : Type} {f g : Nat → List α} : ∀ {n : Nat}, (∀ i, i < n → f i = g i) → cat f n = cat g n
  | 0, _ => rfl
  | n + 1, h => by rw [cat, cat, cat_congr (n := n) fun i hi => h i (by omega), h n (by omega)]
theorem cat_set {α : Type} {f : Nat → List α} {L : Nat} (h : ∀ i, (f i).length = L) {n i k : Nat} (hi : i < n) (hk : k < L) (v : α) : (cat f n).set (i * L + k) v = cat (fun j => if j = i then (f i).set k v else f j) n := by
  have h' : ∀ j, ((fun j => if j = i then (f i).set k v else f j) j).length = L := fun j => by
    simp only
    split
    · rw [List.length_set]; exact h i
    · exact h j
  apply List.ext_getElem?
  intro x
  by_cases hx : x < n * L
  · have hL : 0 < L := by omega
    have e : x = x / L * L + x % L := by have := Nat.div_add_mod x L; rw [Nat.mul_comm]; omega
    have hq : x / L < n := (Nat.div_lt_iff_lt_mul hL).2 hx
    have hr : x % L < L := Nat.mod_lt _ hL
    rw [e, cat_at h' hq hr, List.getElem?_set]
    by_cases hxe : i * L + k = x / L * L + x % L
    · have h1 : i = x / L := by
        have h2 : (i * L + k) / L = (x / L * L + x % L) / L := by rw [hxe]
        rw [Nat.mul_comm i L, Nat.mul_add_div hL, Nat.div_eq_of_lt hk, Nat.mul_comm (x / L) L, Nat.mul_add_div hL, Nat.div_eq_of_lt hr] at h2
        simpa using h2
      have h3 : k = x % L := by rw [← h1] at hxe; omega
      rw [if_pos hxe, if_pos (by rw [cat_len h]; exact mul_in hi hk), ← h1, if_pos rfl, ← h3, List.getElem?_set, if_pos rfl, if_pos (by rw [h i]; exact hk)]
    · rw [if_neg hxe, cat_at h hq hr]
      by_cases h1 : x / L = i
      · rw [if_pos h1, List.getElem?_set, if_neg (fun h3 => hxe (by rw [h1, h3])), h1]
      · rw [if_neg h1]
  · rw [List.getElem?_eq_none (by rw [List.length_set, cat_len h]; omega), List.getElem?_eq_none (by rw [cat_len h']; omega)]
/-- Some of the parts. -/
theorem cat_part {α : Type} {f : Nat → List α} {L : Nat} (h : ∀ i, (f i).length = L) {n i m : Nat} (hi : i + m ≤ n) : ((cat f n).drop (i * L)).take (m * L) = cat (fun j => f (i + j)) m := by
  apply List.ext_getElem?
  intro x
  by_cases hx : x < m * L
  · have hL : 0 < L := by cases L with
      | zero => omega
      | succ => omega
    have e : x = x / L * L + x % L := by have := Nat.div_add_mod x L; rw [Nat.mul_comm]; omega
    have hq : x / L < m := (Nat.div_lt_iff_lt_mul hL).2 hx
    have hr : x % L < L := Nat.mod_lt _ hL
    rw [List.getElem?_take, if_pos hx, List.getElem?_drop]
    have e2 : i * L + x = (i + x / L) * L + x % L := by rw [Nat.add_mul]; omega
    rw [e2, cat_at h (by omega) hr]
    conv => rhs; rw [e]
    rw [cat_at (fun j => h (i + j)) hq hr]
  · rw [List.getElem?_eq_none (by rw [List.length_take, List.length_drop, cat_len h]; omega), List.getElem?_eq_none (by rw [cat_len (fun j => h (i + j))]; omega)]

/-- A key. -/
structure K3 where
  (e s m : Int)
deriving DecidableEq
/-- What is known. -/
structure KV where
  d : Int
  k : K3
  el : Nat → Int
  pa : Option Addr
  (pn pc : Nat)
/-- An offer. -/
structure OW where
  stands : Bool
  told : Int
  kn : KV
  until_ : Int
  last : K3
abbrev kc (k : K3) : List Value := [.int .u32 k.e, .int .u32 k.s, .int .i64 k.m]
abbrev keyV (k : K3) : Value := .agg #[.int .u32 k.e, .int .u32 k.s, .int .i64 k.m]
def elc (f : Nat → Int) : List Value := [.int .u8 (f 0), .int .u8 (f 1), .int .u8 (f 2), .int .u8 (f 3), .int .u8 (f 4), .int .u8 (f 5), .int .u8 (f 6), .int .u8 (f 7), .int .u8 (f 8), .int .u8 (f 9), .int .u8 (f 10), .int .u8 (f 11), .int .u8 (f 12), .int .u8 (f 13), .int .u8 (f 14), .int .u8 (f 15)]
def knc (x : KV) : List Value := .int .i64 x.d :: (kc x.k ++ (elc x.el ++ [.slice x.pa x.pn x.pc]))
def owc (o : OW) : List Value := .bool o.stands :: .int .i64 o.told :: (knc o.kn ++ (.int .i64 o.until_ :: kc o.last))
theorem knc_len (x : KV) : (knc x).length = 21 := rfl
theorem owc_len (o : OW) : (owc o).length = 27 := rfl
/-- A table. -/
structure TB where
  (self hold life : Int)
  off : Nat → OW
  way : Nat → Int
def tc (T : TB) : List Value := [.int .i64 T.self, .int .i64 T.hold, .int .i64 T.life] ++ (cat (fun k => owc (T.off k)) 64 ++ cat (fun d => [.int .i64 (T.way d)]) 8)
theorem offs_len (T : TB) (n : Nat) : (cat (fun k => owc (T.off k)) n).length = n * 27 := cat_len (L := 27) (fun _ => owc_len _) n
theorem ways_len (T : TB) (n : Nat) : (cat (fun d => [Value.int .i64 (T.way d)]) n).length = n * 1 := cat_len (L := 1) (fun _ => rfl) n
theorem tc_len (T : TB) : (tc T).length = 1739 := by
  unfold tc
  rw [List.length_append, List.length_append, offs_len, ways_len]
  rfl
theorem tc_off (T : TB) {k j : Nat} (hk : k < 64) (hj : j < 27) : (tc T)[3 + k * 27 + j]? = (owc (T.off k))[j]? := by
  have h1 := mul_in hk hj
  unfold tc
  rw [List.getElem?_append_right (by simp; omega), show 3 + k * 27 + j - [Value.int .i64 T.self, .int .i64 T.hold, .int .i64 T.life].length = k * 27 + j by simp; omega, List.getElem?_append_left (by rw [offs_len]; exact h1), cat_at (L := 27) (fun i => owc_len _) hk hj]
theorem tc_way (T : TB) {d : Nat} (hd : d < 8) : (tc T)[1731 + d]? = some (.int .i64 (T.way d)) := by
  unfold tc
  rw [List.getElem?_append_right (by simp; omega), show 1731 + d - [Value.int .i64 T.self, .int .i64 T.hold, .int .i64 T.life].length = 1728 + d by simp; omega, List.getElem?_append_right (by rw [offs_len]; omega), offs_len]
  have := cat_at (f := fun d => [Value.int .i64 (T.way d)]) (L := 1) (fun _ => rfl) hd (show 0 < 1 by omega)
  rw [show 1728 + d - 64 * 27 = d * 1 + 0 by omega, this]
  rfl
def TB.putO (T : TB) (k : Nat) (o : OW) : TB := { T with off := fun j => if j = k then o else T.off j }
def TB.putW (T : TB) (d : Nat) (n : Int) : TB := { T with way := fun j => if j = d then n else T.way j }
theorem app_congr {α : Type} {a b b' c : List α} (h : b = b') : a ++ (b ++ c) = a ++ (b' ++ c) := by rw [h]
theorem app_congr2 {α : Type} {a b c c' : List α} (h : c = c') : a ++ (b ++ c) = a ++ (b ++ c') := by rw [h]
theorem tc_setO (T : TB) {k j : Nat} (hk : k < 64) (hj : j < 27) {v : Value} {o : OW} (h : owc o = (owc (T.off k)).set j v) : (tc T).set (3 + k * 27 + j) v = tc (T.putO k o) := by
  have h1 := mul_in hk hj
  unfold tc TB.putO
  rw [List.set_append_right _ _ (by simp; omega), show 3 + k * 27 + j - [Value.int .i64 T.self, .int .i64 T.hold, .int .i64 T.life].length = k * 27 + j by simp; omega, List.set_append_left _ _ (by rw [offs_len]; exact h1), cat_set (L := 27) (fun i => owc_len _) hk hj]
  refine app_congr (cat_congr fun i _ => ?_)
  by_cases hi : i = k
  · simp only [if_pos hi]
    exact h.symm
  · simp only [if_neg hi]
theorem tc_setW (T : TB) {d : Nat} (hd : d < 8) (n : Int) : (tc T).set (1731 + d) (.int .i64 n) = tc (T.putW d n) := by
  unfold tc TB.putW
  rw [List.set_append_right _ _ (by simp; omega), show 1731 + d - [Value.int .i64 T.self, .int .i64 T.hold, .int .i64 T.life].length = 1728 + d by simp; omega, List.set_append_right _ _ (by rw [offs_len]; omega), offs_len, show 1728 + d - 64 * 27 = d * 1 + 0 by omega, cat_set (L := 1) (fun _ => rfl) hd (by omega)]
  refine app_congr2 (cat_congr fun i _ => ?_)
  by_cases hi : i = d
  · simp only [if_pos hi]
    rfl
  · simp only [if_neg hi]
end Go.Proofs.Ytfpmmbbbndobiaa
