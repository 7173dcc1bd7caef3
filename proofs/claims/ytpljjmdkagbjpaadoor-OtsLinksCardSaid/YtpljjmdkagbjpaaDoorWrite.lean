/-
  (*sha.Hash).Write.
-/
import Derived.Test.YtpljjmdkagbjpaaDoorNew
namespace Go.Proofs.YtpljjmdkagbjpaaDoor
open Go.RowKit

theorem hash_set_taken {sl rest : List Int} {n : Int} (hs : sl.length = 8) (hr : rest.length = 64) (m : Int) : (hashCells sl rest n).toArray.setIfInBounds 72 (.int .i64 m) = (hashCells sl rest m).toArray := by
  simp only [hashCells, List.setIfInBounds_toArray]
  congr 1
  rw [List.set_append_right _ _ (by simp; omega), List.length_map, hs, List.set_append_right _ _ (by simp; omega), List.length_map, hr]
  rfl
theorem kv_take (l : List Int) (k : Nat) : (kv .u8 l).take k = kv .u8 (l.take k) := by simp [List.map_take]
/-- The bytes of a slice, as a copy asks for them. -/
theorem HoldsX.source {w : World} {b : Nat} {a : Option Addr} {n cap : Nat} {l : List Int} (h : HoldsX w b (.slice a n cap) l) (k : Nat) (h0 : 0 < (kv .u8 (l.take k)).length) : ∃ ad, a = some ad ∧ ∀ j u, (kv .u8 (l.take k))[j]? = some u → w.cell? (ad.add j) = some u := by
  obtain ⟨ad, h1, h2⟩ := h.h.source (by simp at h0 ⊢; omega)
  refine ⟨ad, h1, fun j u hu => h2 j u ?_⟩
  rw [← kv_take, List.getElem?_take] at hu
  split at hu
  · exact hu
  · cases hu
theorem info5' : (Tryd.prog.info? 5).map (·.size) = some 1 := by kernel_rfl
theorem kv_one (l : List Int) : ∀ u ∈ kv .u8 l, u.oneCell' = true := by
  intro u hu
  obtain ⟨x, _, rfl⟩ := List.mem_map.1 hu
  rfl
theorem part_b {l p rest : List Int} {n r : Nat} (hn : n = l.length) (hr : r = n % 64) (h3 : rest.take r = l.drop (64 * (n / 64))) (hr1 : rest.length = 64) (h : r + p.length < 64) :
    (l ++ p).length / 64 = n / 64 ∧ (splice rest r p).take ((l ++ p).length % 64) = (l ++ p).drop (64 * ((l ++ p).length / 64)) ∧ absorb (l ++ p) (n / 64) = absorb l (n / 64) := by
  subst hn
  have e1 : (l ++ p).length = l.length + p.length := by simp
  have e2 : (l.length + p.length) / 64 = l.length / 64 := by omega
  have e3 : (l.length + p.length) % 64 = r + p.length := by omega
  refine ⟨by rw [e1, e2], ?_, absorb_append _ (by omega)⟩
  rw [e1, e2, e3, splice_take (by omega), h3, List.drop_append_of_le_length (by omega)]
theorem part_c {l p rest : List Int} {n r f : Nat} (hn : n = l.length) (hr : r = n % 64) (h3 : rest.take r = l.drop (64 * (n / 64))) (hr1 : rest.length = 64) (hf : r + f = 64) (h0 : 0 < r) (h : f ≤ p.length) :
    block (absorb l (n / 64)) (splice rest r (p.take f)) = absorb (l ++ p) (n / 64 + 1) ∧ (l ++ p).drop (64 * (n / 64 + 1)) = p.drop f := by
  subst hn
  have e : 64 * (l.length / 64 + 1) = l.length + f := by omega
  constructor
  · have h1 : absorb (l ++ p) (l.length / 64 + 1) = block (absorb (l ++ p) (l.length / 64)) (((l ++ p).drop (64 * (l.length / 64))).take 64) := rfl
    rw [h1, absorb_append _ (by omega)]
    congr 1
    have h2 := splice_take (l := rest) (cs := p.take f) (off := r) (by omega)
    rw [List.length_take, Nat.min_eq_left h, hf, List.take_of_length_le (by rw [splice_len (by rw [List.length_take]; omega)]; omega), h3] at h2
    rw [h2, List.drop_append_of_le_length (by omega)]
    have e4 : (l.drop (64 * (l.length / 64))).length = r := by simp; omega
    rw [List.take_append, e4, show 64 - r = f by omega]
    congr 1
    exact (List.take_of_length_le (by rw [e4]; omega)).symm
  · rw [e, List.drop_append, List.drop_eq_nil_of_le (by omega), List.nil_append, Nat.add_sub_cancel_left]
theorem part_a {l p : List Int} {n : Nat} (hn : n = l.length) (hr : 0 = n % 64) : absorb l (n / 64) = absorb (l ++ p) (n / 64) ∧ (l ++ p).drop (64 * (n / 64)) = p := by
  subst hn
  exact ⟨(absorb_append _ (by omega)).symm, by rw [show 64 * (l.length / 64) = l.length by omega]; simp⟩
set_option maxRecDepth 100000 in
set_option maxHeartbeats 1000000 in
theorem write_any (b : Nat) (l p : List Int) (v : Value) (w : World) (hk : KonIs w) (h0 : 0 < b) (hH : HashIs w b l) (hp : HoldsX w b v p) (hlen : l.length + p.length ≤ 1000000000000000) :
    Calls Tryd.prog 68 #[.pointer (some ⟨b, 0, none⟩), v] w fun r w' => r = .returned (.tuple #[]) ∧ HashTurn b (l ++ p) w w' := by
  obtain ⟨rest, hr1, hr2, hr3, hB⟩ := hH
  obtain ⟨a, len, cap, rfl, hn⟩ := hp.slice
  obtain ⟨n, hn0⟩ : ∃ n, n = l.length := ⟨_, rfl⟩
  rw [← hn0] at hB hr3
  obtain ⟨r, hr0⟩ : ∃ r, r = n % 64 := ⟨_, rfl⟩
  rw [← hr0] at hr3
  have c72 : w.cell? ⟨b, 72, none⟩ = some (.int .i64 n) := by rw [hB.cell, hash_taken (list_len _) hr1]
  have f72 := hB.frozen 72
  have hb : n + len ≤ 1000000000000000 := by omega
  have er : (n : Int) % 64 = (r : Int) := by omega
  have r64 : r < 64 := by omega
  have HT1 : Hid (Turn b (hashObj (absorb l (n / 64)).list rest (n + len)) w (w.setCell ⟨b, 72, none⟩ (.int .i64 ((n : Int) + len)))) := by
    refine ((Turn.same hB).set 72 _).as ?_
    rw [hash_set_taken (list_len _) hr1]
  have HK := Lib.hid hk
  have HP := Lib.hid hp
  have HN := Lib.hid hn
  have HN0 := Lib.hid hn0
  have HR0 := Lib.hid hr0
  have HR1 := Lib.hid hr1
  have HR2 := Lib.hid hr2
  have HR3 := Lib.hid hr3
  have HH0 := Lib.hid h0
  clear hk hp hn hn0 hr0 hr1 hr2 hr3 hlen hB h0
  obtain ⟨f, hf⟩ : ∃ f, r + f = 64 := ⟨64 - r, by omega⟩
  obtain ⟨X, hX⟩ : ∃ X, X = p.take f := ⟨_, rfl⟩
  have HX := Lib.hid hX
  have hs := slice75 b r r64
  have hs2 := slice75_all b
  rw [show 64 - r = f by omega] at hs
  have HSl := list_len (absorb l (n / 64))
  obtain ⟨tot, htot⟩ : ∃ tot, tot = n + len := ⟨_, rfl⟩
  have HTL : Hid ((l ++ p).length = tot) := by
    have h1 := HN.out
    have h2 := HN0.out
    show _ = _
    rw [List.length_append]
    omega
  have HTot := Lib.hid htot
  have HNB : Hid (tot ≤ 1000000000000000) := by show _ ≤ _; omega
  have HF := Lib.hid hf
  rcases (show r = 0 ∨ (0 < r ∧ len < f) ∨ (0 < r ∧ f ≤ len) by omega) with hA | ⟨hB, hB2⟩ | ⟨hC, hC2⟩
  case' inl =>
    have hA0 : ¬ ((0 : Int) < (r : Int)) := by omega
    have HA : Hid (0 = n % 64) := by have := HR0.out; show _ = _; omega
    clear hs HX hX hA hf htot
    have hsl := HSl
    go_enter Tryd.func68, Tryd.ntmps68
    go_wp2_with fail
    obtain ⟨m, hm⟩ : ∃ m, m = n / 64 := ⟨_, rfl⟩
    have hp1 := (part_a (p := p) HN0.out HA.out).1
    have hp2 := (part_a (p := p) HN0.out HA.out).2
    rw [← hm] at hp1 hp2
    have HL : Hid (len + 64 * m = tot) := by have := HA.out; have := HTot.out; show _ = _; omega
    have HP0 : Hid (HoldsX w b (.slice a len cap) ((l ++ p).drop (64 * m))) := by show HoldsX _ _ _ _; rw [hp2]; exact HP.out
    refine wp_world (fun W => Turn b (hashObj (absorb (l ++ p) m).list rest tot) w W) (by
      have h := HT1.out
      rw [← hm, hp1] at h
      have e : ((tot : Nat) : Int) = (n : Int) + len := by have := HTot.out; omega
      rw [e]
      exact h) ?_
    intro W hW
    have HT0 := Lib.hid hW
    have hR1 := HR1.out
    have hR2 := HR2.out
    have HLT : Hid (len ≤ tot) := by have := HTot.out; show _ ≤ _; omega
    clear hp1 hp2 hm hW hA0 HT1 er f72 c72
    generalize rest = R at HT0 hR1 hR2
    generalize a = a0 at *
    generalize len = len0 at *
    generalize cap = cap0 at *
  case' inr.inl =>
    have hA0 : (0 : Int) < r := by omega
    have hXl : X.length = len := by rw [hX, HN.out, List.length_take]; have := HN.out; omega
    have HF2 : Hid (r + len < 64) := by show _ < _; omega
    have hF3 : (r : Int) + len < 64 := by omega
    have HC1 : Hid ((kv .u8 X).length = Nat.min len f) := by show _ = min len f; rw [List.length_map, hXl]; omega
    have HC2 : Hid (∀ W', Turn b (hashObj (absorb l (n / 64)).list rest (n + len)) w W' → 0 < (kv .u8 X).length → ∃ ad, a = some ad ∧ ∀ j v, (kv .u8 X)[j]? = some v → W'.cell? (ad.add j) = some v) := by
      intro W' hW' h1
      rw [hX] at h1 ⊢
      exact (HP.out.turn hW').source f h1
    have HC3 : Hid (8 + r + (kv .u8 X).length ≤ (hashCells (absorb l (n / 64)).list rest (n + len)).length) := by
      show _ ≤ _
      have h1 := hash_size (n := (n : Int) + len) HSl HR1.out
      simp only [List.size_toArray] at h1
      rw [h1, List.length_map, hXl]
      omega
    have HXl := Lib.hid hXl
    clear hX hf htot
    go_enter Tryd.func68, Tryd.ntmps68
    go_wp2_with (refine wpList_copy_turn rfl (.tmp 28) (.tmp 29) 32 32 rfl 5 Tryd.underlying32 info5' _ _ _ _ _ _ rfl rfl b (8 + r) (hashCells (absorb l (n / 64)).list rest (n + len)) 145 w HT1.out (kv .u8 X) HC1.out (fun h1 => ⟨rfl, HC2.out _ HT1.out h1⟩) HC3.out (kv_one _) ?_)
    intro w2 HT2
    clear hs hs2
    go_wp2_with fail
    refine bodyPost_ret (v := .tuple #[]) (results_none rfl _ _ _) rfl ?_
    have hpx : X = p := by rw [HX.out, List.take_of_length_le]; have := HN.out; have := HF2.out; have := HF.out; omega
    have hpl : p.length = len := HN.out.symm
    obtain ⟨h1, h2, h3⟩ := part_b HN0.out HR0.out HR3.out HR1.out (p := p) (by rw [hpl]; exact HF2.out)
    refine ⟨rfl, splice rest r p, ?_, splice_bytes HR2.out HP.out.h.bytes, h2, ?_⟩
    · rw [splice_len (by rw [hpl, HR1.out]; have := HF2.out; omega)]; exact HR1.out
    · have h := HT2.out
      rw [hpx, splice_rest HSl (by rw [hpl, HR1.out]; have := HF2.out; omega)] at h
      rw [h1, h3, HTL.out]
      have e : ((tot : Nat) : Int) = (n : Int) + len := by have := HTot.out; omega
      rw [e]
      exact h
  case' inr.inr =>
    have hA0 : (0 : Int) < r := by omega
    have hXl : X.length = f := by rw [hX, List.length_take]; have := HN.out; omega
    have hF3 : (r : Int) + f = 64 := by omega
    have HC1 : Hid ((kv .u8 X).length = Nat.min len f) := by show _ = min len f; rw [List.length_map, hXl]; omega
    have HC2 : Hid (∀ W', Turn b (hashObj (absorb l (n / 64)).list rest (n + len)) w W' → 0 < (kv .u8 X).length → ∃ ad, a = some ad ∧ ∀ j v, (kv .u8 X)[j]? = some v → W'.cell? (ad.add j) = some v) := by
      intro W' hW' h1
      rw [hX] at h1 ⊢
      exact (HP.out.turn hW').source f h1
    have HC3 : Hid (8 + r + (kv .u8 X).length ≤ (hashCells (absorb l (n / 64)).list rest (n + len)).length) := by
      show _ ≤ _
      have h1 := hash_size (n := (n : Int) + len) HSl HR1.out
      simp only [List.size_toArray] at h1
      rw [h1, List.length_map, hXl]
      omega
    have HXl := Lib.hid hXl
    obtain ⟨v0, hv0, hx0⟩ := HP.out.back (k := f) (by have := HN.out; omega)
    obtain ⟨a0, len0, cap0, rfl, hn0⟩ := hx0.slice
    have HX0 := Lib.hid hx0
    have HNl : Hid (len0 + f = len) := by have := HN.out; show _ = _; rw [hn0, List.length_drop]; omega
    obtain ⟨hp1, hp2⟩ := part_c HN0.out HR0.out HR3.out HR1.out HF.out hC (p := p) (by have := HN.out; omega)
    have HP1 := Kp.mk hp1
    have HP2 := Kp.mk hp2
    have HL2 : Hid (len0 + 64 * (n / 64 + 1) = tot) := by have := HR0.out; have := HTot.out; have := HNl.out; have := HF.out; show _ = _; omega
    have hl00 : len0 ≤ 1000000000000000 := by have := HNl.out; omega
    clear hX hf hx0 hn0 hp1 hp2 htot
    go_enter Tryd.func68, Tryd.ntmps68
    go_wp2_with (refine wpList_copy_turn rfl (.tmp 28) (.tmp 29) 32 32 rfl 5 Tryd.underlying32 info5' _ _ _ _ _ _ rfl rfl b (8 + r) (hashCells (absorb l (n / 64)).list rest (n + len)) 145 w HT1.out (kv .u8 X) HC1.out (fun h1 => ⟨rfl, HC2.out _ HT1.out h1⟩) HC3.out (kv_one _) ?_)
    intro w2 HT2
    clear hs
    have HXf : Hid (X.length = f) := HXl.out
    have HT3 : Hid (Turn b (hashObj (absorb l (n / 64)).list (splice rest r X) (n + len)) w w2) := by
      have h := HT2.out
      rw [splice_rest HSl (by rw [HXf.out, HR1.out]; exact Nat.le_of_eq HF.out)] at h
      exact h
    have hsl : (splice rest r X).length = 64 := by rw [splice_len (by rw [HXf.out, HR1.out]; exact Nat.le_of_eq HF.out)]; exact HR1.out
    have hsb : Bytes (splice rest r X) := splice_bytes HR2.out (by rw [HX.out]; exact HP.out.h.bytes.take _)
    have HSL := Kp.mk hsl
    have HSB := Kp.mk hsb
    have HHB : Hid (HoldsB w2 w2.heap.size (.slice (some ⟨b, 8, none⟩) 64 64) (splice rest r X)) :=
      HoldsB.ofRow2 HT3.out.blk hsl.symm (Nat.le_refl _) (by unfold maxLen; omega) (fun i hi => hash_rest HSl hi) hsb
    clear hsl hsb
    go_wp2_with fail
    refine (compress_any _ b (absorb l (n / 64)) (splice rest r X) (n + len) _ _ w2 (HK.out.turn HT3.out HH0.out) HT3.out.blk HSL.out HHB.out HSL.out).mono ?_
    rintro r3 w3 ⟨rfl, h3⟩
    have HT4 := Lib.hid (HT3.out.trans h3)
    clear h3
    go_wp2_with fail
    obtain ⟨m, hm⟩ : ∃ m, m = n / 64 + 1 := ⟨_, rfl⟩
    have hp1 := HP1.out
    have hp2 := HP2.out
    rw [← HX.out, ← hm] at hp1
    rw [← hm] at hp2
    have HL : Hid (len0 + 64 * m = tot) := by have := HL2.out; rw [← hm] at this; exact this
    have HP0 : Hid (HoldsX w b (.slice a0 len0 cap0) ((l ++ p).drop (64 * m))) := by show HoldsX _ _ _ _; rw [hp2]; exact HX0.out
    refine wp_world (fun W => Turn b (hashObj (absorb (l ++ p) m).list (splice rest r X) tot) w W) (by
      have h := HT4.out
      rw [hp1] at h
      have e : ((tot : Nat) : Int) = (n : Int) + len := by have := HTot.out; omega
      rw [e]
      exact h) ?_
    intro W hW
    have HT0 := Lib.hid hW
    have hR1 := HSL.out
    have hR2 := HSB.out
    have HLT : Hid (len0 ≤ tot) := by have := HL.out; show _ ≤ _; omega
    clear hp1 hp2 hm hW hA0 HT1 er f72 c72 hl00
    generalize splice rest r X = R at HT0 hR1 hR2
  all_goals
    have hbt : Hid (tot ≤ 1000000000000000) := by have := HTot.out; have := HLT.out; have := HNB.out; show _ ≤ _; omega
    have hl0 : len0 ≤ 1000000000000000 := by have := hbt.out; have := HLT.out; omega
    have HR1k := Lib.hid hR1
    have HR2k := Lib.hid hR2
    have hq : (len0 : Int) / 64 = ((len0 / 64 : Nat) : Int) := by omega
    obtain ⟨q, hq0⟩ : ∃ q, q = len0 / 64 := ⟨_, rfl⟩
    have hqb : q ≤ 1000000000000000 := by omega
    rw [hq, ← hq0]
    have HQ := Lib.hid hq0
    clear hq hq0 hR1 hR2
    go_loopw [1, 47] (fun s1 c wr => ∃ (i : Nat) (a1 : Option Addr) (len1 cap1 : Nat), i ≤ q ∧ c = .int .i64 i ∧ s1 = .slice a1 len1 cap1 ∧ HoldsX w b (.slice a1 len1 cap1) ((l ++ p).drop (64 * (m + i))) ∧
      Turn b (hashObj (absorb (l ++ p) (m + i)).list R tot) w wr) (fun _ c _ => q - (intOf c).toNat)
    case atStart => exact ⟨0, a0, len0, cap0, by omega, rfl, rfl, HP0.out, HT0.out⟩
    case round =>
      obtain ⟨i, a1, len1, cap1, hi, rfl, rfl, hx, ht⟩ := hrel
      have HX1 := Kp.mk hx
      have HTu := Kp.mk ht
      have hl1 : len1 + 64 * (m + i) = tot := by
        obtain ⟨a', n', cap', e1, e2⟩ := hx.slice
        simp only [Value.slice.injEq] at e1
        rw [e1.2.1, e2, List.length_drop, HTL.out]
        have := HL.out
        have := HQ.out
        omega
      have HL1 := Lib.hid hl1
      clear hx ht
      by_cases hlt : i < q
      · have h64 : 64 ≤ ((l ++ p).drop (64 * (m + i))).length := by
          rw [List.length_drop, HTL.out]
          have := HL.out
          have := HQ.out
          omega
        obtain ⟨v1, hv1, hx1⟩ := HX1.out.front h64
        obtain ⟨v2, hv2, hx2⟩ := HX1.out.back h64
        obtain ⟨a2, len2, cap2, rfl, -⟩ := hx2.slice
        have hv3 : ∀ w1, (Instr.sliceAt 32 (.slice a1 len1 cap1) none (some (.int .i64 64)) none).run Tryd.prog w1 = .ok v1 w1 := hv1
        have hv4 : ∀ w1, (Instr.sliceAt 32 (.slice a1 len1 cap1) (some (.int .i64 64)) none none).run Tryd.prog w1 = .ok (.slice a2 len2 cap2) w1 := hv2
        have HX3 := Kp.mk hx1
        have HX4 := Kp.mk hx2
        have HC6 : Kp ((((l ++ p).drop (64 * (m + i))).take 64).length = 64) := ⟨by rw [List.length_take]; omega⟩
        clear hv1 hv2 hx1 hx2 h64 hl1
        go_wp2_with fail
        refine (compress_any _ b (absorb (l ++ p) (m + i)) R tot _ _ wr (HK.out.turn HTu.out HH0.out) HTu.out.blk HR1k.out (HX3.out.turn HTu.out).h HC6.out).mono ?_
        rintro r3 w3 ⟨rfl, h3⟩
        have HT4 := Kp.mk (HTu.out.trans h3)
        clear h3
        go_wp2_with fail
        go_roundw
        case rel =>
          refine ⟨i + 1, a2, len2, cap2, by omega, by go_num, rfl, ?_, HT4.out⟩
          have h := HX4.out
          rw [List.drop_drop] at h
          exact h
        case measure => simp [intOf]; omega
      · have HI : Hid (i = q) := by show _ = _; omega
        have hge : (q : Int) ≤ i := by omega
        have hib : i ≤ 1000000000000000 := by omega
        obtain ⟨Y, hY⟩ : ∃ Y, Y = (l ++ p).drop (64 * (m + i)) := ⟨_, rfl⟩
        have HY := Kp.mk hY
        have HXY : Kp (HoldsX w b (.slice a1 len1 cap1) Y) := ⟨by rw [hY]; exact HX1.out⟩
        clear hY
        have HC1 : Hid ((kv .u8 Y).length = Nat.min len1 64) := by
          show _ = min len1 64
          rw [List.length_map, HY.out, List.length_drop, HTL.out]
          have := HL.out
          have := HQ.out
          have := HI.out
          omega
        have HC2 : Hid (∀ W', Turn b (hashObj (absorb (l ++ p) (m + i)).list R tot) w W' → 0 < (kv .u8 Y).length → ∃ ad, a1 = some ad ∧ ∀ j v, (kv .u8 Y)[j]? = some v → W'.cell? (ad.add j) = some v) :=
          fun W' hW' h1 => (HXY.out.turn hW').h.source h1
        have HC3 : Hid (8 + (kv .u8 Y).length ≤ (hashCells (absorb (l ++ p) (m + i)).list R tot).length) := by
          show _ ≤ _
          have h1 := hash_size (n := (tot : Int)) (list_len (absorb (l ++ p) (m + i))) HR1k.out
          simp only [List.size_toArray] at h1
          have h2 := HC1.out
          rw [h1, h2]
          have : Nat.min len1 64 ≤ 64 := Nat.min_le_right _ _
          omega
        clear hlt hi hl1
        go_wp2_with (refine wpList_copy_turn rfl (.tmp 59) (.tmp 60) 32 32 rfl 5 Tryd.underlying32 info5' _ _ _ _ _ _ rfl rfl b 8 (hashCells (absorb (l ++ p) (m + i)).list R tot) 145 w HTu.out (kv .u8 Y) HC1.out (fun h1 => ⟨rfl, HC2.out _ HTu.out h1⟩) HC3.out (kv_one _) ?_)
        intro w5 HT5
        go_wp2_with fail
        go_end0
        have e1 : (l ++ p).length / 64 = m + i := by rw [HTL.out]; have := HL.out; have := HQ.out; have := HI.out; omega
        have e2 : ((l ++ p).drop (64 * (m + i))).length = (l ++ p).length % 64 := by rw [List.length_drop]; omega
        have e3 : 0 + ((l ++ p).drop (64 * (m + i))).length ≤ R.length := by rw [HR1k.out, e2]; omega
        refine ⟨rfl, splice R 0 ((l ++ p).drop (64 * (m + i))), ?_, splice_bytes HR2k.out HX1.out.h.bytes, ?_, ?_⟩
        · rw [splice_len e3]; exact HR1k.out
        · rw [e1, ← e2]
          have h := splice_take (l := R) (cs := (l ++ p).drop (64 * (m + i))) (off := 0) (by omega)
          simpa using h
        · have h := HT5.out
          have h2 : Turn b (.cells (splice (hashCells (absorb (l ++ p) (m + i)).list R tot) (8 + 0) (kv .u8 Y)).toArray 145) w w5 := h
          rw [HY.out, splice_rest (off := 0) (list_len _) e3] at h2
          rw [e1, HTL.out]
          exact h2
end Go.Proofs.YtpljjmdkagbjpaaDoor
