/-
  The document's decimal numbers.
-/
import Derived.Test.YtlinkcbnjdelcaaDoorCnD
import Derived.Laws.IdiomStrings
namespace Go.Proofs.YtlinkcbnjdelcaaDoor
open Go.RowKit

theorem build64 (c : Int) (w : World) : (Instr.buildSlice 64 1 #[(0, .int .u8 c)]).run Tryd.prog w = .ok (.slice (some ⟨w.heap.size, 0, none⟩) 1 1) (w.alloc (.cells #[.int .u8 c] 5)) := by kernel_rfl
theorem mk_append (a b : List UInt8) : (ByteArray.mk a.toArray) ++ (ByteArray.mk b.toArray) = ⟨(a ++ b).toArray⟩ := by
  have h := Joins.data_append (ByteArray.mk a.toArray) (ByteArray.mk b.toArray)
  have e : ∀ x y : ByteArray, x.data.toList = y.data.toList → x = y := fun x y h => by
    obtain ⟨⟨l⟩⟩ := x
    obtain ⟨⟨m⟩⟩ := y
    simp at h
    rw [h]
  apply e
  rw [h]
theorem str_of (W : World) (t : Nat) (c : Nat) (hc : c < 256) (hW : Blk W t (.cells #[.int .u8 c] 5)) : (convert 64 9 (.slice (some ⟨t, 0, none⟩) 1 1)).run Tryd.prog W = .ok (.string ⟨#[UInt8.ofNat c]⟩) W :=
  run_convert_bytes_back W 64 9 5 ⟨t, 0, none⟩ 1 [UInt8.ofNat c] Tryd.underlying64 Tryd.underlying5 Tryd.underlying9 (fun j hj => by
    obtain rfl : j = 0 := by simpa using hj
    have := hW.cell 0
    simp [Addr.add]
    rw [this]
    simp
    omega)
theorem dec_step {n : Nat} (h : ¬ n < 10) : Lib.decDigits n = Lib.decDigits (n / 10) ++ [UInt8.ofNat (48 + n % 10)] := by rw [Lib.decDigits, dif_neg h]
theorem dec_end {n : Nat} (h : n < 10) : Lib.decDigits n = [UInt8.ofNat (48 + n)] := by rw [Lib.decDigits, dif_pos h]
set_option maxHeartbeats 3200000 in
theorem dec_any (u : Nat) (hu : u < 18446744073709551616) (w : World) : Calls Tryd.prog 32 #[.int .u64 u] w fun r w' => r = .returned (.string ⟨(Lib.decDigits u).toArray⟩) ∧ Below w.heap.size w w' := by
  have HL : Kp ((Lib.decDigits u).length ≤ 20) := ⟨by rw [Lib.decDigits_length]; exact Lib.nDigits_le20 u hu⟩
  go_enter Tryd.func32, Tryd.ntmps32
  go_wp2_with fail
  go_loopw [0, 3] (fun nv sv wr => ∃ (n : Nat) (s : List UInt8), nv = .int .u64 n ∧ sv = .string ⟨s.toArray⟩ ∧ n ≤ u ∧ Kp (Lib.decDigits u = Lib.decDigits n ++ s) ∧ Kp (Below w.heap.size w wr)) (fun nv _ _ => (intOf nv).toNat)
  case atStart => exact ⟨u, [], rfl, rfl, Nat.le_refl _, ⟨by simp⟩, ⟨Below.refl _ _⟩⟩
  case round =>
    obtain ⟨n, s, rfl, rfl, hn, K1, K2⟩ := hrel
    have HS : Kp (s.length ≤ 20) := ⟨by have h1 := HL.out; rw [K1.out, List.length_append] at h1; omega⟩
    by_cases h9 : 9 < n
    · have h9' : (9 : Int) < (n : Int) := by omega
      have hcv := str_of (wr.alloc (.cells #[.int .u8 (48 + (n : Int) % 10)] 5)) wr.heap.size (48 + n % 10) (by omega) (by rw [show ((48 + n % 10 : Nat) : Int) = 48 + (n : Int) % 10 by omega]; exact Blk.new _ _)
      obtain ⟨c, hcE⟩ : ∃ c, c = UInt8.ofNat (48 + n % 10) := ⟨_, rfl⟩
      rw [← hcE] at hcv
      have hadd : ∀ w, (Op.stringOp .add ⟨#[c]⟩ ⟨s.toArray⟩).run Tryd.prog w = .ok (.string ⟨(c :: s).toArray⟩) w := fun w => by
        rw [run_string_add_sum w ⟨#[c]⟩ ⟨s.toArray⟩ (by have := HS.out; show (#[c] : Array UInt8).size + s.toArray.size ≤ _; simp; omega)]
        exact congrArg (fun x => Result.ok (Value.string x) w) (mk_append [c] s)
      have K3 : Kp (Lib.decDigits u = Lib.decDigits (n / 10) ++ (c :: s)) := ⟨by rw [K1.out, dec_step (show ¬ n < 10 by omega), hcE]; simp⟩
      have K4 : Kp (∀ o, Below w.heap.size w (wr.alloc o)) := ⟨fun o => K2.out.alloc K2.out.size _⟩
      clear hcE K1 K2
      go_wp2_with fail
      exact ⟨⟨n / 10, c :: s, by go_num, rfl, by omega, K3, ⟨K4.out _⟩⟩, by simp [intOf]; omega⟩
    · have h9' : (n : Int) ≤ 9 := by omega
      have hcv := str_of (wr.alloc (.cells #[.int .u8 (48 + (n : Int))] 5)) wr.heap.size (48 + n) (by omega) (by rw [show ((48 + n : Nat) : Int) = 48 + (n : Int) by omega]; exact Blk.new _ _)
      obtain ⟨c, hcE⟩ : ∃ c, c = UInt8.ofNat (48 + n) := ⟨_, rfl⟩
      rw [← hcE] at hcv
      have hadd : ∀ w, (Op.stringOp .add ⟨#[c]⟩ ⟨s.toArray⟩).run Tryd.prog w = .ok (.string ⟨(Lib.decDigits u).toArray⟩) w := fun w => by
        rw [run_string_add_sum w ⟨#[c]⟩ ⟨s.toArray⟩ (by have := HS.out; show (#[c] : Array UInt8).size + s.toArray.size ≤ _; simp; omega), K1.out, dec_end (show n < 10 by omega), ← hcE]
        exact congrArg (fun x => Result.ok (Value.string x) w) (mk_append [c] s)
      have K4 : Kp (∀ o, Below w.heap.size w (wr.alloc o)) := ⟨fun o => K2.out.alloc K2.out.size _⟩
      clear hcE K1 K2
      go_wp2_with fail
      go_ret
      exact ⟨rfl, K4.out _⟩
set_option maxHeartbeats 3200000 in
theorem whole_any (n : Int) (h : -9223372036854775808 ≤ n ∧ n ≤ 9223372036854775807) (w : World) : Calls Tryd.prog 24 #[.int .i64 n] w fun r w' => r = .returned (.string ⟨(Lib.itoa n).toArray⟩) ∧ Below w.heap.size w w' := by
  obtain ⟨h1, h2⟩ := h
  by_cases h0 : n < 0
  · have hw : IntKind.u64.wrap (-IntKind.u64.wrap n) = (n.natAbs : Int) := by simp [IntKind.wrap, IntKind.bits, IntKind.signed]; omega
    have HD := fun wx => dec_any n.natAbs (by omega) wx
    have HL : Kp ((Lib.decDigits n.natAbs).length ≤ 20) := ⟨by rw [Lib.decDigits_length]; exact Lib.nDigits_le20 _ (by omega)⟩
    have hadd : ∀ w, (Op.stringOp .add ⟨#[45]⟩ ⟨(Lib.decDigits n.natAbs).toArray⟩).run Tryd.prog w = .ok (.string ⟨(Lib.itoa n).toArray⟩) w := fun w => by
      rw [run_string_add_sum w ⟨#[45]⟩ ⟨(Lib.decDigits n.natAbs).toArray⟩ (by have := HL.out; show (#[45] : Array UInt8).size + (Lib.decDigits n.natAbs).toArray.size ≤ _; simp; omega), Lib.itoa, if_pos h0]
      exact congrArg (fun x => Result.ok (Value.string x) w) (mk_append [45] _)
    generalize (ByteArray.mk (Lib.itoa n).toArray) = R at hadd ⊢
    generalize (ByteArray.mk (Lib.decDigits n.natAbs).toArray) = D at hadd HD
    go_enter Tryd.func24, Tryd.ntmps24
    go_wp2_with fail
    refine (HD _).mono ?_
    rintro r w1 ⟨rfl, hb⟩
    have HB := Kp.mk hb
    clear hb
    go_wp2_with fail
    go_ret
    exact ⟨rfl, HB.out⟩
  · have HD := fun wx => dec_any n.toNat (by omega) wx
    have e : Lib.itoa n = Lib.decDigits n.toNat := by rw [Lib.itoa, if_neg h0]
    rw [← e, show ((n.toNat : Nat) : Int) = n by omega] at HD
    generalize (ByteArray.mk (Lib.itoa n).toArray) = R at HD ⊢
    go_enter Tryd.func24, Tryd.ntmps24
    go_wp2_with fail
    refine (HD _).mono ?_
    rintro r w1 ⟨rfl, hb⟩
    have HB := Kp.mk hb
    clear hb
    go_wp2_with fail
    go_ret
    exact ⟨rfl, HB.out⟩
end Go.Proofs.YtlinkcbnjdelcaaDoor
