/-
  sha.Hex.
-/
import Derived.Test.YtahmioiefmheeaaDoorWb
import Derived.Test.YtahmioiefmheeaaDoorShelf
namespace Go.Proofs.YtahmioiefmheeaaDoor
open Go.RowKit

/-- The digit of a number below 16. -/
def hd (n : Int) : UInt8 := if n < 10 then UInt8.ofNat (48 + n.toNat) else UInt8.ofNat (87 + n.toNat)
/-- Bytes as digits. -/
def hexU (l : List Int) : List UInt8 := l.flatMap fun b => [hd (b / 16), hd (b % 16)]
theorem hexU_len (l : List Int) : (hexU l).length = 2 * l.length := by
  induction l with
  | nil => rfl
  | cons b l ih =>
    have : hexU (b :: l) = [hd (b / 16), hd (b % 16)] ++ hexU l := rfl
    rw [this, List.length_append, ih]
    simp
    omega
theorem hexU_snoc (l : List Int) (b : Int) : hexU (l ++ [b]) = hexU l ++ [hd (b / 16), hd (b % 16)] := by simp [hexU]
abbrev hexs : Value := .string ⟨#[48, 49, 50, 51, 52, 53, 54, 55, 56, 57, 97, 98, 99, 100, 101, 102]⟩
theorem idx16 (x : Int) (h0 : 0 ≤ x) (h1 : x < 16) (w : World) : (Instr.index 9 hexs (.int .u8 x)).run Tryd.prog w = .ok (.int .u8 (hd x).toNat) w := by
  obtain ⟨n, rfl⟩ : ∃ n : Nat, x = n := ⟨x.toNat, by omega⟩
  have hn : n < 16 := by omega
  have key : ∀ k, k < 16 → (Instr.index 9 hexs (.int .u8 (k : Nat))).run Tryd.prog w = .ok (.int .u8 (hd (k : Nat)).toNat) w := by
    intro k hk
    match k, hk with
    | 0, _ => exact (show (Instr.index 9 hexs (.int .u8 0)).run Tryd.prog w = .ok (.int .u8 48) w by kernel_rfl)
    | 1, _ => exact (show (Instr.index 9 hexs (.int .u8 1)).run Tryd.prog w = .ok (.int .u8 49) w by kernel_rfl)
    | 2, _ => exact (show (Instr.index 9 hexs (.int .u8 2)).run Tryd.prog w = .ok (.int .u8 50) w by kernel_rfl)
    | 3, _ => exact (show (Instr.index 9 hexs (.int .u8 3)).run Tryd.prog w = .ok (.int .u8 51) w by kernel_rfl)
    | 4, _ => exact (show (Instr.index 9 hexs (.int .u8 4)).run Tryd.prog w = .ok (.int .u8 52) w by kernel_rfl)
    | 5, _ => exact (show (Instr.index 9 hexs (.int .u8 5)).run Tryd.prog w = .ok (.int .u8 53) w by kernel_rfl)
    | 6, _ => exact (show (Instr.index 9 hexs (.int .u8 6)).run Tryd.prog w = .ok (.int .u8 54) w by kernel_rfl)
    | 7, _ => exact (show (Instr.index 9 hexs (.int .u8 7)).run Tryd.prog w = .ok (.int .u8 55) w by kernel_rfl)
    | 8, _ => exact (show (Instr.index 9 hexs (.int .u8 8)).run Tryd.prog w = .ok (.int .u8 56) w by kernel_rfl)
    | 9, _ => exact (show (Instr.index 9 hexs (.int .u8 9)).run Tryd.prog w = .ok (.int .u8 57) w by kernel_rfl)
    | 10, _ => exact (show (Instr.index 9 hexs (.int .u8 10)).run Tryd.prog w = .ok (.int .u8 97) w by kernel_rfl)
    | 11, _ => exact (show (Instr.index 9 hexs (.int .u8 11)).run Tryd.prog w = .ok (.int .u8 98) w by kernel_rfl)
    | 12, _ => exact (show (Instr.index 9 hexs (.int .u8 12)).run Tryd.prog w = .ok (.int .u8 99) w by kernel_rfl)
    | 13, _ => exact (show (Instr.index 9 hexs (.int .u8 13)).run Tryd.prog w = .ok (.int .u8 100) w by kernel_rfl)
    | 14, _ => exact (show (Instr.index 9 hexs (.int .u8 14)).run Tryd.prog w = .ok (.int .u8 101) w by kernel_rfl)
    | 15, _ => exact (show (Instr.index 9 hexs (.int .u8 15)).run Tryd.prog w = .ok (.int .u8 102) w by kernel_rfl)
    | k + 16, hk => exact absurd hk (by omega)
  exact key n hn
theorem and15 (x : Int) (h0 : 0 ≤ x) (h1 : x ≤ 255) : bits .and .u8 x 15 = x % 16 := by
  rw [u8_and x 15 h0 (by omega) (by decide) (by decide)]
  rw [show (15 : Int).toNat = 15 from rfl, nat_mask4]
  omega
theorem cells_one (c : UInt8) : [Value.int .u8 (c.toNat : Int)] = Lib.byteCells [c] := rfl
set_option maxRecDepth 100000 in
set_option maxHeartbeats 1000000 in
theorem hex_any (M : Nat) (v : Value) (l : List Int) (w : World) (h : HoldsB w M v l) (hl : 2 * l.length ≤ 100000000000000) :
    Calls Tryd.prog 20 #[v] w fun r w' => r = .returned (.string ⟨(hexU l).toArray⟩) ∧ Below w.heap.size w w' := by
  obtain ⟨a, len, cap, rfl, hn⟩ := h.slice
  have H := Kp.mk h
  have HN := Kp.mk hn
  have hb : len ≤ 50000000000000 := by omega
  clear h hn hl
  go_enter Tryd.func20, Tryd.ntmps20
  go_wp2_with fail
  rw [show (2 * (len : Int)) = ((2 * len : Nat) : Int) by omega]
  refine (Tryd.Builder_Grow_fresh w.heap.size w.heap.size (2 * len) _ (Nat.le_refl _) (Blk.newAt (w := w) (.cells #[.pointer none, .slice none 0 0] 112) rfl) (by simp) (by omega)).mono ?_
  rintro r w2 ⟨rfl, h1, h2⟩
  have H1 : Kp (Bd w.heap.size w.heap.size [] w2) := ⟨h1⟩
  have H2 : Kp (Below w.heap.size w w2) := ⟨(more (Below.refl _ _) _).trans h2⟩
  clear h1 h2
  go_wp2_with fail
  go_loopw [12] (fun c wr => ∃ k : Nat, k ≤ len ∧ c = .int .i64 k ∧ Bd w.heap.size w.heap.size (Lib.byteCells (hexU (l.take k))) wr ∧ Below w.heap.size w wr) (fun c _ => len - (intOf c).toNat)
  case atStart => exact ⟨0, by omega, rfl, H1.out, H2.out⟩
  case round =>
    obtain ⟨k, hk, rfl, h1, h2⟩ := hrel
    have G1 := Kp.mk h1
    have G2 := Kp.mk h2
    clear h1 h2 H1 H2
    by_cases hlt : k < len
    · obtain ⟨b, off, rfl, -, c0⟩ := (H.out.keep G2.out).cellAt (i := k) (by have := HN.out; omega)
      have hx := H.out.bytes.at (i := k) (by have := HN.out; omega)
      have HT : Kp (l.take (k + 1) = l.take k ++ [l.getD k 0]) := ⟨by
        have hl : k < l.length := by have := HN.out; omega
        rw [List.take_succ_eq_append_getElem hl, List.getD_eq_getElem?_getD, List.getElem?_eq_getElem hl]; rfl⟩
      have HLk : Kp ((l.take k).length = k) := ⟨by rw [List.length_take]; have := HN.out; omega⟩
      generalize l.getD k 0 = x at *
      obtain ⟨hx0, hx1⟩ := hx
      have i1 := idx16 (x / 16) (by omega) (by omega)
      have i2 := idx16 (x % 16) (by omega) (by omega)
      have a1 := and15 x hx0 hx1
      go_wp2_with fail
      refine (writeByte w.heap.size w.heap.size (Lib.byteCells (hexU (l.take k))) _ wr G1.out (by rw [Lib.byteCells_length, hexU_len, HLk.out]; omega) G2.out.size).mono ?_
      rintro r w3 ⟨rfl, h1, h2⟩
      have F1 := Kp.mk h1
      have F2 : Kp (Below w.heap.size w w3) := ⟨G2.out.trans h2⟩
      clear h1 h2
      go_wp2_with fail
      refine (writeByte w.heap.size w.heap.size (Lib.byteCells (hexU (l.take k)) ++ [.int .u8 (hd (x / 16)).toNat]) _ w3 F1.out (by rw [List.length_append, Lib.byteCells_length, hexU_len, HLk.out]; simp; omega) F2.out.size).mono ?_
      rintro r w4 ⟨rfl, h1, h2⟩
      have E1 := Kp.mk h1
      have E2 : Kp (Below w.heap.size w w4) := ⟨F2.out.trans h2⟩
      clear h1 h2
      go_wp2_with fail
      refine ⟨⟨k + 1, by omega, by go_num, ?_, E2.out⟩, by simp [intOf]; omega⟩
      have h := E1.out
      rw [HT.out, hexU_snoc, Lib.byteCells_append]
      rw [List.append_assoc] at h
      exact h
    · have HK : Kp (k = len) := ⟨by omega⟩
      have hge : (len : Int) ≤ k := by omega
      have HLk : Kp (l.take k = l) := ⟨by rw [HK.out, List.take_of_length_le]; have := HN.out; omega⟩
      clear hlt hk
      go_wp2_with fail
      refine (Tryd.Builder_String_any w.heap.size w.heap.size (hexU (l.take k)) _ (Or.inr G1.out) G2.out.size).mono ?_
      rintro r w3 ⟨rfl, h2⟩
      have F2 : Kp (Below w.heap.size w w3) := ⟨G2.out.trans h2⟩
      clear h2
      go_wp2_with fail
      go_ret
      rw [HLk.out]
      exact ⟨rfl, F2.out⟩
end Go.Proofs.YtahmioiefmheeaaDoor
