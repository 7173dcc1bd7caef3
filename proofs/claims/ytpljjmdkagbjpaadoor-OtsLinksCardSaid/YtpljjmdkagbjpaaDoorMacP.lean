/-
  Tags: plain lists; mac.keyBlock, mac.overlaid, mac.sum.
-/
import Derived.Test.YtpljjmdkagbjpaaDoorAwake
import Derived.Deep.RegionLaw
namespace Go.Proofs.YtpljjmdkagbjpaaDoor
open Go.RowKit

/-- A key's block. -/
def keyb (k : List Int) : List Int := fill 64 (if 64 < k.length then digest k else k)
theorem keyb_len (k : List Int) : (keyb k).length = 64 := by
  unfold keyb
  split
  · rw [fill_len (by rw [digest_len]; omega)]
  · rw [fill_len (by omega)]
theorem fill_bytes {n : Nat} {l : List Int} (h : Bytes l) : Bytes (fill n l) := h.append (zeros_bytes _)
theorem keyb_bytes {k : List Int} (h : Bytes k) : Bytes (keyb k) := by
  unfold keyb
  split
  · exact fill_bytes (digest_bytes _)
  · exact fill_bytes h
/-- Each byte laid over with x. -/
def over (l : List Int) (x : Int) : List Int := l.map fun b => bits .xor .u8 b x
theorem over_len (l : List Int) (x : Int) : (over l x).length = l.length := by simp [over]
theorem bits_u8r (op : BinOp) (x y : Int) : 0 ≤ bits op .u8 x y ∧ bits op .u8 x y ≤ 255 := by
  unfold bits
  simp only [IntKind.wrap_u8']
  omega
theorem over_bytes (l : List Int) (x : Int) : Bytes (over l x) := by
  intro y hy
  unfold over at hy
  obtain ⟨b, _, rfl⟩ := List.mem_map.1 hy
  exact bits_u8r _ _ _
/-- A message's tag by a key. -/
def macL (k p : List Int) : List Int := digest (over (keyb k) 92 ++ digest (over (keyb k) 54 ++ p))
theorem info75 : (Tryd.prog.info? 143).map (·.size) = some 64 := by kernel_rfl
theorem cells75 {l : List Int} (h : l.length = 64) : (Tryd.prog.info? 143).map (·.size) = some (kv .u8 l).toArray.size := by rw [info75, kv_size, h]
abbrev z75 : Obj := .cells (kv .u8 (fill 64 [])).toArray 143
theorem size75 {l : List Int} (h : l.length = 64) : (kv .u8 (fill 64 [])).toArray.size = (kv .u8 l).toArray.size := by rw [kv_size, kv_size, h]; rfl
set_option maxRecDepth 100000 in
theorem slice75_whole (b : Nat) (w : World) : (Instr.sliceAt 143 (.pointer (some ⟨b, 0, none⟩)) none none none).run Tryd.prog w = .ok (.slice (some ⟨b, 0, none⟩) 64 64) w := by
  have hl : Tryd.prog.arrayLen 143 = 64 := by kernel_rfl
  have he : Tryd.prog.elem 143 = 5 := by kernel_rfl
  rw [run_sliceAt_array_all (ht := Tryd.underlying143), hl, he, size5]
  rfl
/-- l with its first k numbers laid over. -/
def ovr (l : List Int) (x : Int) (k : Nat) : List Int := (over l x).take k ++ l.drop k
theorem ovr_len (l : List Int) (x : Int) (k : Nat) (h : k ≤ l.length) : (ovr l x k).length = l.length := by simp [ovr, over_len]; omega
theorem ovr_get (l : List Int) (x : Int) (k : Nat) (h : k < l.length) : (ovr l x k).getD k 0 = l.getD k 0 := by
  unfold ovr
  rw [List.getD_eq_getElem?_getD, List.getElem?_append_right (by rw [List.length_take, over_len]; omega), List.length_take, over_len, Nat.min_eq_left (Nat.le_of_lt h), Nat.sub_self, List.getElem?_drop, Nat.add_zero, ← List.getD_eq_getElem?_getD]
theorem ovr_set (l : List Int) (x : Int) (k : Nat) (h : k < l.length) : (ovr l x k).set k (bits .xor .u8 (l.getD k 0) x) = ovr l x (k + 1) := by
  unfold ovr
  have e1 : ((over l x).take k).length = k := by rw [List.length_take, over_len]; omega
  rw [List.set_append_right _ _ (by omega), e1, Nat.sub_self]
  have e2 : l.drop k = l.getD k 0 :: l.drop (k + 1) := by
    rw [List.drop_eq_getElem_cons h, List.getD_eq_getElem?_getD, List.getElem?_eq_getElem h]
    rfl
  have e3 : (over l x).take (k + 1) = (over l x).take k ++ [bits .xor .u8 (l.getD k 0) x] := by
    rw [List.take_succ_eq_append_getElem (by rw [over_len]; exact h), List.getD_eq_getElem?_getD, List.getElem?_eq_getElem h]
    simp [over]
  rw [e2, List.set_cons_zero, e3, List.append_assoc]
  rfl
theorem ovr_zero (l : List Int) (x : Int) : ovr l x 0 = l := by simp [ovr]
theorem ovr_full (l : List Int) (x : Int) : ovr l x l.length = over l x := by
  unfold ovr
  rw [List.take_of_length_le (by rw [over_len]; exact Nat.le_refl _), List.drop_of_length_le (Nat.le_refl _), List.append_nil]
set_option maxRecDepth 100000 in
set_option maxHeartbeats 1000000 in
theorem overlaid_any (l : List Int) (x : Int) (w : World) (hl : l.length = 64) :
    Calls Tryd.prog 108 #[.agg (kv .u8 l).toArray, .int .u8 x] w fun r w' => r = .returned (.slice (some ⟨w.heap.size, 0, none⟩) 64 64) ∧ HoldsB w' w'.heap.size (.slice (some ⟨w.heap.size, 0, none⟩) 64 64) (over l x) ∧ Below w.heap.size w w' := by
  have HL := Kp.mk hl
  have hs := slice75_whole w.heap.size
  clear hl
  go_enter Tryd.func108, Tryd.ntmps108
  go_wp2_with fail
  obtain ⟨A, hA⟩ : ∃ A, A = w.heap.size := ⟨_, rfl⟩
  rw [← hA] at hs ⊢
  have HA := Kp.mk hA
  go_loopw [6] (fun c wr => ∃ k : Nat, k ≤ 64 ∧ c = .int .i64 k ∧ Row wr A 143 .u8 (ovr l x k) ∧ Below A w wr) (fun c _ => 64 - (intOf c).toNat)
  case atStart => exact ⟨0, by omega, rfl, by rw [ovr_zero]; exact Blk.newAt _ hA, by rw [hA]; exact more (Below.refl _ _) _⟩
  case round =>
    obtain ⟨k, hk, rfl, h1, h2⟩ := hrel
    have G1 := Kp.mk h1
    have G2 := Kp.mk h2
    clear h1 h2 hA
    by_cases hlt : k < 64
    · have cw : wr.cell? ⟨A, k, none⟩ = some (.int .u8 (l.getD k 0)) := by rw [G1.out.cell (by rw [ovr_len _ _ _ (by rw [HL.out]; exact hk), HL.out]; exact hlt), ovr_get _ _ _ (by rw [HL.out]; exact hlt)]
      have fw := G1.out.frozen k
      have HS := Kp.mk (ovr_set l x k (by rw [HL.out]; exact hlt))
      generalize l.getD k 0 = y at *
      go_wp2_with fail
      refine ⟨⟨k + 1, by omega, by go_num, (G1.out.set k _).as HS.out, G2.out.setCell (Nat.le_refl _) _⟩, by simp [intOf]; omega⟩
    · have HK : Kp (k = 64) := ⟨by omega⟩
      have hge : 64 ≤ (k : Int) := by omega
      have HF : Kp (Row wr A 143 .u8 (over l x)) := by
        have h := G1.out
        rw [HK.out, ← HL.out, ovr_full] at h
        exact ⟨h⟩
      clear hlt hk G1
      go_wp2_with fail
      go_ret
      rw [← HA.out]
      refine ⟨rfl, ?_, G2.out⟩
      have h := HoldsB.ofBytes HF.out (over_bytes l x) (by rw [over_len, HL.out]; unfold maxLen; omega)
      rw [over_len, HL.out] at h
      exact h
end Go.Proofs.YtpljjmdkagbjpaaDoor
