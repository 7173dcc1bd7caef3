/-
  The document's Number.
-/
import Derived.Test.YtcppmkblllappaaDoorCfN
import Derived.Test.YtcppmkblllappaaDoorCfE
namespace Go.Proofs.YtcppmkblllappaaDoor
open Go.RowKit

/-- A byte of a string. -/
theorem byte_at {l : ByteArray} {i : Nat} {c : UInt8} (h : l.data.toList[i]? = some c) : ∀ w : World, (Instr.index 9 (.string l) (.int .i64 (i : Int))).run Tryd.prog w = .ok (.int .u8 (c.toNat : Int)) w := fun w => by
  have hl : i < l.size := by
    have h1 := (List.getElem?_eq_some_iff.1 h).1
    have : l.size = l.data.toList.length := by show l.data.size = _; simp
    omega
  rw [run_index_string w 9 _ .i64 i (by kernel_rfl), dif_pos ⟨by omega, by omega⟩]
  congr 3
  have h2 : l.data[i]? = some c := by rw [← h]; simp
  have h3 := (Array.getElem?_eq_some_iff.1 h2).2
  show _ = c.toNat
  simp only [Int.toNat_natCast]
  rw [← h3]
  rfl
theorem dgs_mem {l : List UInt8} (h : dgs l = true) {c : UInt8} (hc : c ∈ l) : 48 ≤ c.toNat ∧ c.toNat ≤ 57 := by
  unfold dgs at h
  exact of_decide_eq_true (List.all_eq_true.1 h c hc)
theorem vf_lt (l : List UInt8) : ∀ a : Nat, dgs l = true → vf a l < (a + 1) * 10 ^ l.length := by
  induction l with
  | nil => intro a _; rw [List.length_nil, Nat.pow_zero, Nat.mul_one]; exact Nat.lt_succ_self a
  | cons c r ih =>
    intro a h
    obtain ⟨hc, hr⟩ := (dgs_cons c r).1 h
    have h1 := ih (a * 10 + (c.toNat - 48)) hr
    have h2 : (a * 10 + (c.toNat - 48) + 1) * 10 ^ r.length ≤ (a + 1) * 10 * 10 ^ r.length := Nat.mul_le_mul_right _ (by omega)
    have h3 : (a + 1) * 10 ^ (c :: r).length = (a + 1) * 10 * 10 ^ r.length := by rw [List.length_cons, Nat.pow_succ, Nat.mul_assoc, Nat.mul_comm (10 ^ r.length)]
    rw [h3]
    exact Nat.lt_of_lt_of_le h1 h2
def NPost (s : ByteArray) (w : World) (e : Ending) (w' : World) : Prop := e = .returned (.tuple #[.int .i64 ((numV s).getD 0), .bool (numV s).isSome]) ∧ w' = w
set_option maxHeartbeats 3200000 in
theorem rnum_any (s : ByteArray) (hs : s.size ≤ 4096) (w : World) : Calls Tryd.prog 28 #[.string s] w (NPost s w) := by
  have hsz : s.size = s.data.toList.length := by show s.data.size = _; simp
  have HV : Kp (numV s = numR s.data.toList) := ⟨numV_eq s⟩
  obtain ⟨l, hl⟩ : ∃ l, l = s.data.toList := ⟨_, rfl⟩
  rw [← hl] at HV hsz
  rcases hd : l with _ | ⟨c, r⟩
  · have HF : Kp (NPost s w (.returned (.tuple #[.int .i64 0, .bool false])) w) := ⟨by rw [HV.out, hd]; rfl, rfl⟩
    have h0 : s.size = 0 := by rw [hsz, hd]; rfl
    have h0b : ((s.size : Int) == 0) = true := by simp [h0]
    clear HV hsz hd hl
    go_enter Tryd.func28, Tryd.ntmps28
    go_wp2_with fail
    go_ret2
    exact HF.out
  · have h0 : (s.size : Int) ≠ 0 := by rw [hsz, hd]; simp; omega
    have h0b : ((s.size : Int) == 0) = false := by simpa using h0
    by_cases h19 : 19 < s.size
    · have HF : Kp (NPost s w (.returned (.tuple #[.int .i64 0, .bool false])) w) := ⟨by rw [HV.out]; unfold numR; rw [if_pos (.inr (.inl (by omega)))]; rfl, rfl⟩
      have h19' : (19 : Int) < (s.size : Int) := by omega
      clear HV hsz hd hl h19
      go_enter Tryd.func28, Tryd.ntmps28
      go_wp2_with fail
      go_ret2
      exact HF.out
    · have h19' : ¬ (19 : Int) < (s.size : Int) := by omega
      have hp0 : 0 < s.size := by omega
      have e0 : s[0]'hp0 = c := by
        have h2 : s.data[0]? = some c := by
          have : s.data.toList[0]? = some c := by rw [← hl, hd]; rfl
          simpa using this
        exact (Array.getElem?_eq_some_iff.1 h2).2
      by_cases hz : c = 48 ∧ 1 < s.size
      · have HF : Kp (NPost s w (.returned (.tuple #[.int .i64 0, .bool false])) w) := ⟨by rw [HV.out]; unfold numR; rw [if_pos (.inr (.inr ⟨by rw [hd, hz.1]; rfl, by omega⟩))]; rfl, rfl⟩
        obtain ⟨rfl, h1⟩ := hz
        have h1' : (1 : Int) < (s.size : Int) := by omega
        clear HV hsz hd hl h19
        go_enter Tryd.func28, Tryd.ntmps28
        go_wp2_with fail
        all_goals first
          | (exfalso; omega)
          | (exfalso; simp_all; done)
          | (go_ret2; exact HF.out)
      · have HL : Kp (l.length = s.size ∧ s.size ≤ 19 ∧ l = s.data.toList ∧ l ≠ [] ∧ ¬ (l.head? = some 48 ∧ 1 < l.length)) := ⟨hsz.symm, by omega, hl, by rw [hd]; simp, fun h => hz ⟨by rw [hd] at h; simpa using h.1, by omega⟩⟩
        have HG : Kp (dgs l = true → vf 0 l ≤ 9223372036854775807 → numV s = some (vf 0 l : Int)) := ⟨fun h1 h2 => by rw [HV.out]; unfold numR; rw [if_neg (by rintro (e | e | e); exact HL.out.2.2.2.1 e; (have := HL.out.1; have := HL.out.2.1; omega); exact HL.out.2.2.2.2 e), if_pos h1, if_pos h2]⟩
        have HB : Kp (dgs l = false ∨ 9223372036854775807 < vf 0 l → numV s = none) := ⟨fun h => by
          rw [HV.out]; unfold numR
          rw [if_neg (by rintro (e | e | e); exact HL.out.2.2.2.1 e; (have := HL.out.1; have := HL.out.2.1; omega); exact HL.out.2.2.2.2 e)]
          rcases h with h | h
          · rw [if_neg (by rw [h]; simp)]
          · split
            · rw [if_neg (by omega)]
            · rfl⟩
        by_cases h48 : c = 48
        · subst h48
          have h1n : ¬ (1 : Int) < (s.size : Int) := by
            have : ¬ 1 < s.size := fun h => hz ⟨rfl, h⟩
            omega
          clear HV hsz hd hl h19 hz
          go_enter Tryd.func28, Tryd.ntmps28
          go_upto_region 3 with fail
          go_wp2_with fail
          go_loopw [4, 5] (fun cn ct wr => ∃ j : Nat, j ≤ s.size ∧ ct = .int .i64 j ∧ cn = .int .u64 (vf 0 (l.take j) : Nat) ∧ Kp (dgs (l.take j) = true) ∧ Kp (wr = w)) (fun _ ct _ => s.size - (intOf ct).toNat)
          case atStart => exact ⟨0, Nat.zero_le _, rfl, rfl, ⟨rfl⟩, ⟨rfl⟩⟩
          case round =>
            obtain ⟨j, hj, rfl, rfl, HD, HW⟩ := hrel
            have hw := HW.out
            subst hw
            by_cases hjl : j < s.size
            · have hjl' : (j : Int) < (s.size : Int) := by omega
              have hjn : j < l.length := by rw [HL.out.1]; exact hjl
              obtain ⟨d, hd⟩ : ∃ d, d = l[j] := ⟨_, rfl⟩
              have ej : s[j]'hjl = d := by
                have h2 : s.data[j]? = some d := by
                  have : s.data.toList[j]? = some d := by rw [← HL.out.2.2.1, List.getElem?_eq_getElem hjn, hd]
                  simpa using this
                exact (Array.getElem?_eq_some_iff.1 h2).2
              have HT : Kp (l.take (j + 1) = l.take j ++ [d]) := ⟨by rw [List.take_add_one, List.getElem?_eq_getElem hjn, hd]; rfl⟩
              have HJ := Kp.mk hjl
              by_cases hg : 48 ≤ d.toNat ∧ d.toNat ≤ 57
              · have HD2 : Kp (dgs (l.take (j + 1)) = true) := ⟨by rw [HT.out, dgs_append]; exact ⟨HD.out, by rw [dgs_cons]; exact ⟨hg, rfl⟩⟩⟩
                have HV2 : Kp (vf 0 (l.take (j + 1)) = vf 0 (l.take j) * 10 + (d.toNat - 48)) := ⟨by rw [HT.out, vf_append]⟩
                have hvb : vf 0 (l.take j) < 1000000000000000000 := by
                  have h1 := vf_lt (l.take j) 0 HD.out
                  have h2 : (l.take j).length = j := by rw [List.length_take]; omega
                  have h3 := HL.out.2.1
                  rw [h2] at h1
                  have h6 : (1000000000000000000 : Nat) = 10 ^ 18 := by decide
                  have h4 : 10 ^ j ≤ 1000000000000000000 := by rw [h6]; exact Nat.pow_le_pow_right (by decide) (by omega)
                  clear h6
                  omega
                obtain ⟨n, hn⟩ : ∃ n, n = vf 0 (l.take j) := ⟨_, rfl⟩
                rw [← hn] at hvb HV2
                rw [← hn]
                obtain ⟨g1, g2⟩ := hg
                have g1' : (48 : Int) ≤ (d.toNat : Int) := by omega
                have g2' : (d.toNat : Int) ≤ 57 := by omega
                clear hd hjn hn HD HT
                go_wp2_with fail
                exact ⟨⟨j + 1, by have := HJ.out; omega, by go_num, by rw [HV2.out]; congr 1; omega, HD2, ⟨trivial⟩⟩, by have := HJ.out; simp [intOf]; omega⟩
              · have HF : Kp (NPost s wr (.returned (.tuple #[.int .i64 0, .bool false])) wr) := ⟨by
                  rw [HB.out (.inl (Bool.eq_false_iff.2 fun h => hg (dgs_mem h (by rw [hd]; exact List.getElem_mem _))))]; rfl, rfl⟩
                by_cases hlo : d.toNat < 48
                · have hlo' : (d.toNat : Int) < 48 := by omega
                  clear hd hjn HD HT HB HG hg
                  go_wp2_with fail
                  go_ret2
                  exact HF.out
                · have hlo' : ¬ (d.toNat : Int) < 48 := by omega
                  have hhi' : (57 : Int) < (d.toNat : Int) := by omega
                  clear hd hjn HD HT HB HG hg
                  go_wp2_with fail
                  go_ret2
                  exact HF.out
            · have e : l.take j = l := List.take_of_length_le (by rw [HL.out.1]; omega)
              rw [e] at HD ⊢
              have hjl' : ¬ (j : Int) < (s.size : Int) := by omega
              by_cases hv : vf 0 l ≤ 9223372036854775807
              · have HF : Kp (NPost s wr (.returned (.tuple #[.int .i64 (vf 0 l : Nat), .bool true])) wr) := ⟨by rw [HG.out HD.out hv]; rfl, rfl⟩
                obtain ⟨n, hn⟩ : ∃ n, n = vf 0 l := ⟨_, rfl⟩
                rw [← hn] at hv HF
                rw [← hn]
                have hv1 : (n : Int) ≤ 9223372036854775807 := by omega
                have hv2 : ¬ (9223372036854775807 : Int) < (n : Int) := by omega
                clear hn e HD HB HG hjl
                go_wp2_with fail
                go_ret2
                exact HF.out
              · have HF : Kp (NPost s wr (.returned (.tuple #[.int .i64 0, .bool false])) wr) := ⟨by rw [HB.out (.inr (by omega))]; rfl, rfl⟩
                obtain ⟨n, hn⟩ : ∃ n, n = vf 0 l := ⟨_, rfl⟩
                rw [← hn] at hv
                rw [← hn]
                have hv2 : (9223372036854775807 : Int) < (n : Int) := by omega
                clear hn e HD HB HG hjl
                go_wp2_with fail
                go_ret2
                exact HF.out
        · have hc48 : ((c.toNat : Int) == 48) = false := by
            simp
            intro h
            exact h48 (UInt8.toNat_inj.1 (by show c.toNat = 48; omega))
          clear HV hsz hd hl h19 hz
          go_enter Tryd.func28, Tryd.ntmps28
          go_upto_region 3 with fail
          go_wp2_with fail
          go_loopw [4, 5] (fun cn ct wr => ∃ j : Nat, j ≤ s.size ∧ ct = .int .i64 j ∧ cn = .int .u64 (vf 0 (l.take j) : Nat) ∧ Kp (dgs (l.take j) = true) ∧ Kp (wr = w)) (fun _ ct _ => s.size - (intOf ct).toNat)
          case atStart => exact ⟨0, Nat.zero_le _, rfl, rfl, ⟨rfl⟩, ⟨rfl⟩⟩
          case round =>
            obtain ⟨j, hj, rfl, rfl, HD, HW⟩ := hrel
            have hw := HW.out
            subst hw
            by_cases hjl : j < s.size
            · have hjl' : (j : Int) < (s.size : Int) := by omega
              have hjn : j < l.length := by rw [HL.out.1]; exact hjl
              obtain ⟨d, hd⟩ : ∃ d, d = l[j] := ⟨_, rfl⟩
              have ej : s[j]'hjl = d := by
                have h2 : s.data[j]? = some d := by
                  have : s.data.toList[j]? = some d := by rw [← HL.out.2.2.1, List.getElem?_eq_getElem hjn, hd]
                  simpa using this
                exact (Array.getElem?_eq_some_iff.1 h2).2
              have HT : Kp (l.take (j + 1) = l.take j ++ [d]) := ⟨by rw [List.take_add_one, List.getElem?_eq_getElem hjn, hd]; rfl⟩
              have HJ := Kp.mk hjl
              by_cases hg : 48 ≤ d.toNat ∧ d.toNat ≤ 57
              · have HD2 : Kp (dgs (l.take (j + 1)) = true) := ⟨by rw [HT.out, dgs_append]; exact ⟨HD.out, by rw [dgs_cons]; exact ⟨hg, rfl⟩⟩⟩
                have HV2 : Kp (vf 0 (l.take (j + 1)) = vf 0 (l.take j) * 10 + (d.toNat - 48)) := ⟨by rw [HT.out, vf_append]⟩
                have hvb : vf 0 (l.take j) < 1000000000000000000 := by
                  have h1 := vf_lt (l.take j) 0 HD.out
                  have h2 : (l.take j).length = j := by rw [List.length_take]; omega
                  have h3 := HL.out.2.1
                  rw [h2] at h1
                  have h6 : (1000000000000000000 : Nat) = 10 ^ 18 := by decide
                  have h4 : 10 ^ j ≤ 1000000000000000000 := by rw [h6]; exact Nat.pow_le_pow_right (by decide) (by omega)
                  clear h6
                  omega
                obtain ⟨n, hn⟩ : ∃ n, n = vf 0 (l.take j) := ⟨_, rfl⟩
                rw [← hn] at hvb HV2
                rw [← hn]
                obtain ⟨g1, g2⟩ := hg
                have g1' : (48 : Int) ≤ (d.toNat : Int) := by omega
                have g2' : (d.toNat : Int) ≤ 57 := by omega
                clear hd hjn hn HD HT
                go_wp2_with fail
                exact ⟨⟨j + 1, by have := HJ.out; omega, by go_num, by rw [HV2.out]; congr 1; omega, HD2, ⟨trivial⟩⟩, by have := HJ.out; simp [intOf]; omega⟩
              · have HF : Kp (NPost s wr (.returned (.tuple #[.int .i64 0, .bool false])) wr) := ⟨by
                  rw [HB.out (.inl (Bool.eq_false_iff.2 fun h => hg (dgs_mem h (by rw [hd]; exact List.getElem_mem _))))]; rfl, rfl⟩
                by_cases hlo : d.toNat < 48
                · have hlo' : (d.toNat : Int) < 48 := by omega
                  clear hd hjn HD HT HB HG hg
                  go_wp2_with fail
                  go_ret2
                  exact HF.out
                · have hlo' : ¬ (d.toNat : Int) < 48 := by omega
                  have hhi' : (57 : Int) < (d.toNat : Int) := by omega
                  clear hd hjn HD HT HB HG hg
                  go_wp2_with fail
                  go_ret2
                  exact HF.out
            · have e : l.take j = l := List.take_of_length_le (by rw [HL.out.1]; omega)
              rw [e] at HD ⊢
              have hjl' : ¬ (j : Int) < (s.size : Int) := by omega
              by_cases hv : vf 0 l ≤ 9223372036854775807
              · have HF : Kp (NPost s wr (.returned (.tuple #[.int .i64 (vf 0 l : Nat), .bool true])) wr) := ⟨by rw [HG.out HD.out hv]; rfl, rfl⟩
                obtain ⟨n, hn⟩ : ∃ n, n = vf 0 l := ⟨_, rfl⟩
                rw [← hn] at hv HF
                rw [← hn]
                have hv1 : (n : Int) ≤ 9223372036854775807 := by omega
                have hv2 : ¬ (9223372036854775807 : Int) < (n : Int) := by omega
                clear hn e HD HB HG hjl
                go_wp2_with fail
                go_ret2
                exact HF.out
              · have HF : Kp (NPost s wr (.returned (.tuple #[.int .i64 0, .bool false])) wr) := ⟨by rw [HB.out (.inr (by omega))]; rfl, rfl⟩
                obtain ⟨n, hn⟩ : ∃ n, n = vf 0 l := ⟨_, rfl⟩
                rw [← hn] at hv
                rw [← hn]
                have hv2 : (9223372036854775807 : Int) < (n : Int) := by omega
                clear hn e HD HB HG hjl
                go_wp2_with fail
                go_ret2
                exact HF.out
end Go.Proofs.YtcppmkblllappaaDoor
