/-
  The document's decimals.
-/
import Derived.Test.YtcppmkblllappaaDoorCfZ
import Derived.Lib.SlBytesRow
namespace Go.Proofs.YtcppmkblllappaaDoor
open Go.RowKit

set_option maxRecDepth 100000 in
theorem conv_one (w : World) (x : Int) (d : Nat) (hx : x = (d : Nat)) (hd : d ≤ 255) :
    (convert 78 9 (.slice (some ⟨w.heap.size, 0, none⟩) 1 1)).run Tryd.prog (w.alloc (.cells #[.int .u8 x] 5)) = .ok (.string ⟨#[UInt8.ofNat d]⟩) (w.alloc (.cells #[.int .u8 x] 5)) := by
  have h := run_convert_bytes_arg (P := Tryd.prog) (w.alloc (.cells #[.int .u8 x] 5)) 78 5 Tryd.underlying78 Tryd.underlying5 w.heap.size 0 1 1 [x] rfl (fun i hi => by
    obtain rfl : i = 0 := by omega
    exact (Blk.new w (.cells #[.int .u8 x] 5) : Blk _ _ _).cell 0) 9 Tryd.underlying9
  rw [h]
  congr 2
  apply byte_ext
  rw [strOfNums_data, hx]
  simp
theorem str_app (c : UInt8) (l : List UInt8) : (⟨#[c]⟩ : ByteArray) ++ ⟨l.toArray⟩ = ⟨(c :: l).toArray⟩ := byte_ext (by simp)
theorem dec_len (u : Nat) (hu : u ≤ 9223372036854775808) : (Lib.decDigits u).length ≤ 20 := by
  by_cases h : 1 ≤ u
  · have := Lib.itoa_length_le (-(u : Int)) (by omega) (by omega)
    rw [Lib.itoa_neg u h, List.length_cons] at this
    omega
  · obtain rfl : u = 0 := by omega
    rw [Lib.decDigits_one (by decide)]
    decide
set_option maxRecDepth 100000 in
set_option maxHeartbeats 6400000 in
theorem rdecimal_any (u : Nat) (hu : u ≤ 9223372036854775808) (w : World) : Calls Tryd.prog 44 #[.int .u64 u] w fun e w' => e = .returned (.string ⟨(Lib.decDigits u).toArray⟩) ∧ Below w.heap.size w w' := by
  have HU := Kp.mk hu
  have HLN : Kp ((Lib.decDigits u).length ≤ 20) := ⟨dec_len u hu⟩
  clear hu
  go_enter Tryd.func44, Tryd.ntmps44
  go_wp2_with fail
  go_loopw [0, 3] (fun cn cs wr => ∃ (n : Nat) (l : List UInt8), n ≤ u ∧ cn = .int .u64 n ∧ cs = .string ⟨l.toArray⟩ ∧ Kp (Lib.decDigits n ++ l = Lib.decDigits u) ∧ Kp (Below w.heap.size w wr)) (fun cn _ _ => (intOf cn).toNat)
  case atStart => exact ⟨u, [], Nat.le_refl _, rfl, rfl, ⟨List.append_nil _⟩, ⟨Below.refl _ _⟩⟩
  case round =>
    obtain ⟨n, l, hn, rfl, rfl, HD, HB⟩ := hrel
    have hll : l.length ≤ 20 := by
      have h1 := congrArg List.length HD.out
      have h2 := HLN.out
      rw [List.length_append] at h1
      omega
    have HN := Kp.mk hn
    clear hn
    by_cases h9 : 9 < n
    · have h9' : (9 : Int) < (n : Int) := by omega
      have hcv := conv_one wr (48 + (n : Int) % 10) (48 + n % 10) (by omega) (by omega)
      have hst := str_app (UInt8.ofNat (48 + n % 10)) l
      have hw : IntKind.u64.wrap ((n : Int) / 10) = ((n / 10 : Nat) : Int) := by have := HU.out; have := HN.out; simp [IntKind.wrap, IntKind.bits, IntKind.signed]; omega
      have HD2 : Kp (Lib.decDigits (n / 10) ++ (UInt8.ofNat (48 + n % 10) :: l) = Lib.decDigits u) := ⟨by
        rw [← HD.out]
        conv => rhs; rw [Lib.decDigits, dif_neg (by omega)]
        simp⟩
      have H9 := Kp.mk h9
      generalize UInt8.ofNat (48 + n % 10) = c at hcv hst HD2
      clear HD h9
      go_wp2_with fail
      exact ⟨⟨n / 10, c :: l, by have := HN.out; omega, by go_num, rfl, HD2, ⟨HB.out.alloc HB.out.size _⟩⟩, by have := H9.out; simp [intOf]; omega⟩
    · have h9' : ¬ (9 : Int) < (n : Int) := by omega
      have hcv := conv_one wr (48 + (n : Int)) (48 + n) (by omega) (by omega)
      have hst := str_app (UInt8.ofNat (48 + n)) l
      have HD2 : Kp (UInt8.ofNat (48 + n) :: l = Lib.decDigits u) := ⟨by
        rw [← HD.out, Lib.decDigits_one (by omega)]; rfl⟩
      have h9n : n ≤ 9 := by omega
      generalize UInt8.ofNat (48 + n) = c at hcv hst HD2
      clear HD h9
      go_wp2_with fail
      go_ret
      exact ⟨by show Ending.returned (.string ⟨(c :: l).toArray⟩) = _; rw [HD2.out], HB.out.alloc HB.out.size _⟩
theorem rwhole_any (n : Int) (h : -9223372036854775808 ≤ n ∧ n ≤ 9223372036854775807) (w : World) : Calls Tryd.prog 35 #[.int .i64 n] w fun e w' => e = .returned (.string ⟨(Lib.itoa n).toArray⟩) ∧ Below w.heap.size w w' := by
  have HH := Kp.mk h
  by_cases h0 : n < 0
  · have HC := fun wx => rdecimal_any n.natAbs (by omega) wx
    have hw1 : IntKind.u64.wrap n = n + 18446744073709551616 := by simp [IntKind.wrap, IntKind.bits, IntKind.signed]; omega
    have hw2 : IntKind.u64.wrap (-(n + 18446744073709551616)) = (n.natAbs : Int) := by simp [IntKind.wrap, IntKind.bits, IntKind.signed]; omega
    have HE : Kp ((⟨#[45]⟩ : ByteArray) ++ ⟨(Lib.decDigits n.natAbs).toArray⟩ = ⟨(Lib.itoa n).toArray⟩) := ⟨by unfold Lib.itoa; rw [if_pos h0, str_app]⟩
    have hln := dec_len n.natAbs (by omega)
    go_enter Tryd.func35, Tryd.ntmps35
    go_wp2_with fail
    refine (HC _).mono ?_
    rintro e w1 ⟨rfl, hb⟩
    have HB := Kp.mk hb
    clear hb HC
    go_wp2_with fail
    go_ret
    exact ⟨by rw [HE.out]; rfl, HB.out⟩
  · obtain ⟨u, rfl⟩ : ∃ u : Nat, n = u := ⟨n.toNat, by omega⟩
    have HC := fun wx => rdecimal_any u (by omega) wx
    have hw1 : IntKind.u64.wrap (u : Int) = u := by simp [IntKind.wrap, IntKind.bits, IntKind.signed]; omega
    have HE : Kp (Lib.itoa (u : Int) = Lib.decDigits u) := ⟨Lib.itoa_nonneg u⟩
    go_enter Tryd.func35, Tryd.ntmps35
    go_wp2_with fail
    refine (HC _).mono ?_
    rintro e w1 ⟨rfl, hb⟩
    have HB := Kp.mk hb
    clear hb HC
    go_wp2_with fail
    go_ret
    exact ⟨by rw [HE.out]; rfl, HB.out⟩
end Go.Proofs.YtcppmkblllappaaDoor
