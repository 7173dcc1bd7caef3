/-
  The contracts of In's numbers.
-/
import Derived.Test.YtlgcpfeaecpocaaInA
import Derived.Test.YtlgcpfeaecpocaaNum
namespace Go.Proofs.Ytlgcpfeaecpocaa
open Go.RowKit

set_option maxHeartbeats 1600000 in
theorem number_any (M I : Nat) (l : List Int) (e : Int) (k : Nat) (w : World) (h : InIs w M I l e) (hk : k ≤ 8) :
    Calls Try.prog 52 #[.pointer (some ⟨I, 0, none⟩), .int .i64 k] w fun r w' => r = .returned (.int .u64 (numOf (nextP l e k))) ∧ InStep M I (nextL l e k) (nextE l e k) w w' := by
  go_enter Try.func52, Try.ntmps52
  go_wp2_with fail
  refine (next_any M I l e k _ h (by omega)).mono ?_
  rintro r w1 ⟨v, rfl, hp, h1⟩
  have H1 := Lib.hid h1
  have hlen : (nextP l e k).length ≤ 8 := by unfold nextP; split <;> simp <;> omega
  obtain ⟨p, hpe⟩ : ∃ p, nextP l e k = p := ⟨_, rfl⟩
  rw [hpe] at hp hlen
  have HPE := Lib.hid hpe
  clear hpe
  obtain ⟨a, n, cap, rfl, hn⟩ := hp.slice
  have HP := Lib.hid hp
  have HN := Lib.hid hn
  have hn8 : n ≤ 8 := by omega
  clear h h1 hp hn hlen
  go_wp2_with fail
  go_loop [5, 12] (fun m c => ∃ i : Nat, i ≤ n ∧ c = .int .i64 i ∧ m = .int .u64 (numOf (p.take i))) (fun _ c => n - (intOf c).toNat)
  case atStart => exact ⟨0, by omega, rfl, rfl⟩
  case round =>
    obtain ⟨i, hi, rfl, rfl⟩ := hrel
    by_cases hlt : i < n
    · obtain ⟨b, off, rfl, -, hc⟩ := HP.out.cellAt (i := i) (by have := HN.out; omega)
      have hx := HP.out.bytes.at (i := i) (by have := HN.out; omega)
      have HX : Hid (numOf (p.take (i + 1)) = (numOf (p.take i) * 256 + p.getD i 0) % 18446744073709551616) := numOf_take (by have := HN.out; omega)
      generalize p.getD i 0 = x at *
      have HS := Lib.hid (or_step (numOf (p.take i)) x hx.1 hx.2)
      clear hx
      go_wp2_with fail
      exact ⟨⟨i + 1, by omega, by go_num, by rw [HX.out, HS.out]⟩, by simp [intOf]; omega⟩
    · obtain rfl : i = n := by omega
      have hz : Hid (numOf (p.take i) = numOf (nextP l e k)) := by unfold Hid; rw [HPE.out, HN.out, List.take_length]
      go_wp2_with fail
      go_ret
      exact ⟨reti hz.out, H1.out⟩

theorem u8_any (M I : Nat) (l : List Int) (e : Int) (w : World) (h : InIs w M I l e) :
    Calls Try.prog 34 #[.pointer (some ⟨I, 0, none⟩)] w fun r w' => r = .returned (.int .u64 (numOf (nextP l e 1))) ∧ InStep M I (nextL l e 1) (nextE l e 1) w w' := by
  go_enter Try.func34, Try.ntmps34
  go_wp2_with fail
  refine (number_any M I l e 1 _ h (by omega)).mono ?_
  rintro r w1 ⟨rfl, h1⟩
  go_wp2_with fail
  go_ret
  exact ⟨rfl, h1⟩
theorem u32_any (M I : Nat) (l : List Int) (e : Int) (w : World) (h : InIs w M I l e) :
    Calls Try.prog 33 #[.pointer (some ⟨I, 0, none⟩)] w fun r w' => r = .returned (.int .u64 (numOf (nextP l e 4))) ∧ InStep M I (nextL l e 4) (nextE l e 4) w w' := by
  go_enter Try.func33, Try.ntmps33
  go_wp2_with fail
  refine (number_any M I l e 4 _ h (by omega)).mono ?_
  rintro r w1 ⟨rfl, h1⟩
  go_wp2_with fail
  go_ret
  exact ⟨rfl, h1⟩
end Go.Proofs.Ytlgcpfeaecpocaa
