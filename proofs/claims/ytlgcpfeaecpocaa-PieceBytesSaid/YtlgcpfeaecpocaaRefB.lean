/-
  The contracts of the document's In: numbers, short sums, blobs, End.
-/
import Derived.Test.YtlgcpfeaecpocaaRefA
namespace Go.Proofs.Ytlgcpfeaecpocaa
open Go.RowKit

theorem rawP_len (B : List Int) (at' : Nat) (e : Int) (k : Nat) : (rawP B at' e k).length ≤ k := by unfold rawP; split <;> simp <;> omega
theorem rawP_bytes {B : List Int} (h : Bytes B) (at' : Nat) (e : Int) (k : Nat) : Bytes (rawP B at' e k) := by
  unfold rawP
  split
  · exact (h.drop _).take k
  · exact Bytes.nil

set_option maxHeartbeats 1600000 in
theorem num_any (M R : Nat) (B : List Int) (at' : Nat) (e : Int) (k : Nat) (w : World) (h : RefIs w M R B at' e) (hk : k ≤ 8) :
    Calls Try.prog 37 #[.pointer (some ⟨R, 0, none⟩), .int .i64 k] w fun r w' => r = .returned (.int .u64 (numOf (rawP B at' e k))) ∧ RefStep M R B (rawA B at' e k) (rawE B at' e k) w w' := by
  have hbytes := rawP_bytes h.bytes at' e k
  go_enter Try.func37, Try.ntmps37
  go_wp2_with fail
  refine (raw_any M R B at' e k _ h (by omega)).mono ?_
  rintro r w1 ⟨v, rfl, hp, h1⟩
  have H1 := Lib.hid h1
  have hlen := rawP_len B at' e k
  obtain ⟨p, hpe⟩ : ∃ p, rawP B at' e k = p := ⟨_, rfl⟩
  rw [hpe] at hp hlen hbytes
  have HPE := Lib.hid hpe
  clear hpe
  have hv := HoldsB.ofRow hbytes hp
  obtain ⟨a, n, cap, rfl, hn⟩ := hv.slice
  have HP := Lib.hid hv
  have HN := Lib.hid hn
  have hn8 : n ≤ 8 := by omega
  clear h h1 hp hn hlen hv hbytes
  go_wp2_with fail
  go_loop [6, 7] (fun m c => ∃ i : Nat, i ≤ n ∧ c = .int .i64 i ∧ m = .int .u64 (numOf (p.take i))) (fun _ c => n - (intOf c).toNat)
  case atStart => exact ⟨0, by omega, rfl, rfl⟩
  case round =>
    obtain ⟨i, hi, rfl, rfl⟩ := hrel
    by_cases hlt : i < n
    · obtain ⟨b, off, rfl, -, hc⟩ := HP.out.cellAt (i := i) (by have := HN.out; omega)
      have hx := HP.out.bytes.at (i := i) (by have := HN.out; omega)
      have HX : Hid (numOf (p.take (i + 1)) = (numOf (p.take i) * 256 + p.getD i 0) % 18446744073709551616) := numOf_take (by have := HN.out; omega)
      generalize p.getD i 0 = x at *
      have HS := Lib.hid (add_step (numOf (p.take i)) x hx.1 hx.2)
      clear hx
      go_wp2_with fail
      exact ⟨⟨i + 1, by omega, by go_num, by rw [HX.out, HS.out]⟩, by simp [intOf]; omega⟩
    · obtain rfl : i = n := by omega
      have hz : Hid (numOf (p.take i) = numOf (rawP B at' e k)) := by unfold Hid; rw [HPE.out, HN.out, List.take_length]
      go_wp2_with fail
      go_ret
      exact ⟨reti hz.out, H1.out⟩

set_option maxHeartbeats 800000 in
theorem rend_any (M R : Nat) (B : List Int) (at' : Nat) (e : Int) (w : World) (h : RefIs w M R B at' e) :
    Calls Try.prog 39 #[.pointer (some ⟨R, 0, none⟩)] w fun r w' => r = .returned (.int .i64 (if 0 < rleft B at' e then 10 else e)) ∧ ∃ o, Turn R o w w' := by
  have HH := Lib.hid h
  obtain ⟨_, ⟨v, hv, hB⟩, _⟩ := h
  have HB := Lib.hid hB
  clear hv hB
  by_cases hl : 0 < rleft B at' e
  · have hl' : (0 : Int) < (rleft B at' e : Nat) := by omega
    rw [if_pos hl]
    generalize hL : rleft B at' e = L at *
    have HL := Lib.hid hL
    clear hL hl
    go_enter Try.func39, Try.ntmps39
    go_wp2_with fail
    refine (rleft_any M R B at' e _ HH.out).mono ?_
    rintro r w1 ⟨rfl, hb⟩
    rw [HL.out]
    have HB1 := Lib.hid hb
    have hB1 := HB.out.keep hb
    obtain ⟨c0, c1, c2, f0, f1, f2⟩ := hB1.three
    have lR := hB1.lt
    have HB2 := Lib.hid hB1
    clear hb hB1
    go_wp2_with fail
    go_ret
    exact ⟨rfl, _, Turn.ahead HB1.out ((Turn.same HB2.out).set 2 _)⟩
  · have hl' : ((rleft B at' e : Nat) : Int) ≤ 0 := by omega
    rw [if_neg hl]
    generalize hL : rleft B at' e = L at *
    have HL := Lib.hid hL
    clear hL hl
    go_enter Try.func39, Try.ntmps39
    go_wp2_with fail
    refine (rleft_any M R B at' e _ HH.out).mono ?_
    rintro r w1 ⟨rfl, hb⟩
    rw [HL.out]
    have HB1 := Lib.hid hb
    have hB1 := HB.out.keep hb
    obtain ⟨c0, c1, c2, f0, f1, f2⟩ := hB1.three
    have lR := hB1.lt
    have HB2 := Lib.hid hB1
    clear hb hB1
    go_wp2_with fail
    go_ret
    exact ⟨rfl, _, Turn.ahead HB1.out (Turn.same HB2.out)⟩
end Go.Proofs.Ytlgcpfeaecpocaa
