/-
  (*sha.Hash).Write.
  How many blocks bytes take: sha.Blocks and the document's.
  (*sha.Hash).end: what stands behind the last byte is taken in. (*sha.Hash).Blocks.
  The document's Pad.
  A row of rows of bytes that came in.
  Rows and hashes behind what leaves all below as it was; append to a literal.
  (*sha.Hash).Sum and sha.Sum.
  (Nothing of the examples is wanted here.)
  The laws' awake: the standard's example.
-/
import Derived.Test.YtibbinenhmiclaaDoorSn02
import Derived.Laws.OwnMore
import Derived.Deep.MidRow
import Derived.Lib.SlBytesConst
namespace Go.Proofs.YtibbinenhmiclaaDoor
open Go.RowKit

theorem hash_set_taken {sl rest : List Int} {n : Int} (hs : sl.length = 8) (hr : rest.length = 64) (m : Int) : (hashCells sl rest n).toArray.setIfInBounds 72 (.int .i64 m) = (hashCells sl rest m).toArray := by
  simp only [hashCells, List.setIfInBounds_toArray]
  congr 1
  rw [List.set_append_right _ _ (by simp; omega), List.length_map, hs, List.set_append_right _ _ (by simp; omega), List.length_map, hr]
  rfl
theorem kv_take (l : List Int) (k : Nat) : (kv .u8 l).take k = kv .u8 (l.take k) := by simp [List.map_take]
/-- The bytes of a slice, as a copy asks for them. -/
theorem HoldsX.source {w : World} {b : Nat} {a : Option Addr} {n cap : Nat} {l : List Int} (h : HoldsX w b (.slice a n cap) l) (k : Nat) (h0 : 0 < (kv .u8 (l.take k)).length) : ∃ ad, a = some ad ∧ ∀ j u, (kv .u8 (l.take k))[j]? = some u → w.cell? (ad.add j) = some u := by
  obtain ⟨ad, h1, h2⟩ := h.h.source (by simp at h0 ⊢; omega)
  refine ⟨ad, h1, fun j u hu => h2 j u ?_⟩
  rw [← kv_take, List.getElem?_take] at hu
  split at hu
  · exact hu
  · cases hu
theorem info5' : (Tryd.prog.info? 5).map (·.size) = some 1 := by kernel_rfl
theorem kv_one (l : List Int) : ∀ u ∈ kv .u8 l, u.oneCell' = true := by
  intro u hu
  obtain ⟨x, _, rfl⟩ := List.mem_map.1 hu
  rfl
theorem part_b {l p rest : List Int} {n r : Nat} (hn : n = l.length) (hr : r = n % 64) (h3 : rest.take r = l.drop (64 * (n / 64))) (hr1 : rest.length = 64) (h : r + p.length < 64) :
    (l ++ p).length / 64 = n / 64 ∧ (splice rest r p).take ((l ++ p).length % 64) = (l ++ p).drop (64 * ((l ++ p).length / 64)) ∧ absorb (l ++ p) (n / 64) = absorb l (n / 64) := by
  subst hn
  have e1 : (l ++ p).length = l.length + p.length := by simp
  have e2 : (l.length + p.length) / 64 = l.length / 64 := by omega
  have e3 : (l.length + p.length) % 64 = r + p.length := by omega
  refine ⟨by rw [e1, e2], ?_, absorb_append _ (by omega)⟩
  rw [e1, e2, e3, splice_take (by omega), h3, List.drop_append_of_le_length (by omega)]
theorem part_c {l p rest : List Int} {n r f : Nat} (hn : n = l.length) (hr : r = n % 64) (h3 : rest.take r = l.drop (64 * (n / 64))) (hr1 : rest.length = 64) (hf : r + f = 64) (h0 : 0 < r) (h : f ≤ p.length) :
    block (absorb l (n / 64)) (splice rest r (p.take f)) = absorb (l ++ p) (n / 64 + 1) ∧ (l ++ p).drop (64 * (n / 64 + 1)) = p.drop f := by
  subst hn
  have e : 64 * (l.length / 64 + 1) = l.length + f := by omega
  constructor
  · have h1 : absorb (l ++ p) (l.length / 64 + 1) = block (absorb (l ++ p) (l.length / 64)) (((l ++ p).drop (64 * (l.length / 64))).take 64) := rfl
    rw [h1, absorb_append _ (by omega)]
    congr 1
    have h2 := splice_take (l := rest) (cs := p.take f) (off := r) (by omega)
    rw [List.length_take, Nat.min_eq_left h, hf, List.take_of_length_le (by rw [splice_len (by rw [List.length_take]; omega)]; omega), h3] at h2
    rw [h2, List.drop_append_of_le_length (by omega)]
    have e4 : (l.drop (64 * (l.length / 64))).length = r := by simp; omega
    rw [List.take_append, e4, show 64 - r = f by omega]
    congr 1
    exact (List.take_of_length_le (by rw [e4]; omega)).symm
  · rw [e, List.drop_append, List.drop_eq_nil_of_le (by omega), List.nil_append, Nat.add_sub_cancel_left]
theorem part_a {l p : List Int} {n : Nat} (hn : n = l.length) (hr : 0 = n % 64) : absorb l (n / 64) = absorb (l ++ p) (n / 64) ∧ (l ++ p).drop (64 * (n / 64)) = p := by
  subst hn
  exact ⟨(absorb_append _ (by omega)).symm, by rw [show 64 * (l.length / 64) = l.length by omega]; simp⟩
set_option maxRecDepth 100000 in
set_option maxHeartbeats 1000000 in
theorem write_any (b : Nat) (l p : List Int) (v : Value) (w : World) (hk : KonIs w) (h0 : 0 < b) (hH : HashIs w b l) (hp : HoldsX w b v p) (hlen : l.length + p.length ≤ 1000000000000000) :
    Calls Tryd.prog 90 #[.pointer (some ⟨b, 0, none⟩), v] w fun r w' => r = .returned (.tuple #[]) ∧ HashTurn b (l ++ p) w w' := by
  obtain ⟨rest, hr1, hr2, hr3, hB⟩ := hH
  obtain ⟨a, len, cap, rfl, hn⟩ := hp.slice
  obtain ⟨n, hn0⟩ : ∃ n, n = l.length := ⟨_, rfl⟩
  rw [← hn0] at hB hr3
  obtain ⟨r, hr0⟩ : ∃ r, r = n % 64 := ⟨_, rfl⟩
  rw [← hr0] at hr3
  have c72 : w.cell? ⟨b, 72, none⟩ = some (.int .i64 n) := by rw [hB.cell, hash_taken (list_len _) hr1]
  have f72 := hB.frozen 72
  have hb : n + len ≤ 1000000000000000 := by omega
  have er : (n : Int) % 64 = (r : Int) := by omega
  have r64 : r < 64 := by omega
  have HT1 : Hid (Turn b (hashObj (absorb l (n / 64)).list rest (n + len)) w (w.setCell ⟨b, 72, none⟩ (.int .i64 ((n : Int) + len)))) := by
    refine ((Turn.same hB).set 72 _).as ?_
    rw [hash_set_taken (list_len _) hr1]
  have HK := Lib.hid hk
  have HP := Lib.hid hp
  have HN := Lib.hid hn
  have HN0 := Lib.hid hn0
  have HR0 := Lib.hid hr0
  have HR1 := Lib.hid hr1
  have HR2 := Lib.hid hr2
  have HR3 := Lib.hid hr3
  have HH0 := Lib.hid h0
  clear hk hp hn hn0 hr0 hr1 hr2 hr3 hlen hB h0
  obtain ⟨f, hf⟩ : ∃ f, r + f = 64 := ⟨64 - r, by omega⟩
  obtain ⟨X, hX⟩ : ∃ X, X = p.take f := ⟨_, rfl⟩
  have HX := Lib.hid hX
  have hs := slice75 b r r64
  have hs2 := slice75_all b
  rw [show 64 - r = f by omega] at hs
  have HSl := list_len (absorb l (n / 64))
  obtain ⟨tot, htot⟩ : ∃ tot, tot = n + len := ⟨_, rfl⟩
  have HTL : Hid ((l ++ p).length = tot) := by
    have h1 := HN.out
    have h2 := HN0.out
    show _ = _
    rw [List.length_append]
    omega
  have HTot := Lib.hid htot
  have HNB : Hid (tot ≤ 1000000000000000) := by show _ ≤ _; omega
  have HF := Lib.hid hf
  rcases (show r = 0 ∨ (0 < r ∧ len < f) ∨ (0 < r ∧ f ≤ len) by omega) with hA | ⟨hB, hB2⟩ | ⟨hC, hC2⟩
  case' inl =>
    have hA0 : ¬ ((0 : Int) < (r : Int)) := by omega
    have HA : Hid (0 = n % 64) := by have := HR0.out; show _ = _; omega
    clear hs HX hX hA hf htot
    have hsl := HSl
    go_enter Tryd.func90, Tryd.ntmps90
    go_wp2_with fail
    obtain ⟨m, hm⟩ : ∃ m, m = n / 64 := ⟨_, rfl⟩
    have hp1 := (part_a (p := p) HN0.out HA.out).1
    have hp2 := (part_a (p := p) HN0.out HA.out).2
    rw [← hm] at hp1 hp2
    have HL : Hid (len + 64 * m = tot) := by have := HA.out; have := HTot.out; show _ = _; omega
    have HP0 : Hid (HoldsX w b (.slice a len cap) ((l ++ p).drop (64 * m))) := by show HoldsX _ _ _ _; rw [hp2]; exact HP.out
    refine wp_world (fun W => Turn b (hashObj (absorb (l ++ p) m).list rest tot) w W) (by
      have h := HT1.out
      rw [← hm, hp1] at h
      have e : ((tot : Nat) : Int) = (n : Int) + len := by have := HTot.out; omega
      rw [e]
      exact h) ?_
    intro W hW
    have HT0 := Lib.hid hW
    have hR1 := HR1.out
    have hR2 := HR2.out
    have HLT : Hid (len ≤ tot) := by have := HTot.out; show _ ≤ _; omega
    clear hp1 hp2 hm hW hA0 HT1 er f72 c72
    generalize rest = R at HT0 hR1 hR2
    generalize a = a0 at *
    generalize len = len0 at *
    generalize cap = cap0 at *
  case' inr.inl =>
    have hA0 : (0 : Int) < r := by omega
    have hXl : X.length = len := by rw [hX, HN.out, List.length_take]; have := HN.out; omega
    have HF2 : Hid (r + len < 64) := by show _ < _; omega
    have hF3 : (r : Int) + len < 64 := by omega
    have HC1 : Hid ((kv .u8 X).length = Nat.min len f) := by show _ = min len f; rw [List.length_map, hXl]; omega
    have HC2 : Hid (∀ W', Turn b (hashObj (absorb l (n / 64)).list rest (n + len)) w W' → 0 < (kv .u8 X).length → ∃ ad, a = some ad ∧ ∀ j v, (kv .u8 X)[j]? = some v → W'.cell? (ad.add j) = some v) := by
      intro W' hW' h1
      rw [hX] at h1 ⊢
      exact (HP.out.turn hW').source f h1
    have HC3 : Hid (8 + r + (kv .u8 X).length ≤ (hashCells (absorb l (n / 64)).list rest (n + len)).length) := by
      show _ ≤ _
      have h1 := hash_size (n := (n : Int) + len) HSl HR1.out
      simp only [List.size_toArray] at h1
      rw [h1, List.length_map, hXl]
      omega
    have HXl := Lib.hid hXl
    clear hX hf htot
    go_enter Tryd.func90, Tryd.ntmps90
    go_wp2_with (refine wpList_copy_turn rfl (.tmp 28) (.tmp 29) 131 131 rfl 5 Tryd.underlying131 info5' _ _ _ _ _ _ rfl rfl b (8 + r) (hashCells (absorb l (n / 64)).list rest (n + len)) 164 w HT1.out (kv .u8 X) HC1.out (fun h1 => ⟨rfl, HC2.out _ HT1.out h1⟩) HC3.out (kv_one _) ?_)
    intro w2 HT2
    clear hs hs2
    go_wp2_with fail
    refine bodyPost_ret (v := .tuple #[]) (results_none rfl _ _ _) rfl ?_
    have hpx : X = p := by rw [HX.out, List.take_of_length_le]; have := HN.out; have := HF2.out; have := HF.out; omega
    have hpl : p.length = len := HN.out.symm
    obtain ⟨h1, h2, h3⟩ := part_b HN0.out HR0.out HR3.out HR1.out (p := p) (by rw [hpl]; exact HF2.out)
    refine ⟨rfl, splice rest r p, ?_, splice_bytes HR2.out HP.out.h.bytes, h2, ?_⟩
    · rw [splice_len (by rw [hpl, HR1.out]; have := HF2.out; omega)]; exact HR1.out
    · have h := HT2.out
      rw [hpx, splice_rest HSl (by rw [hpl, HR1.out]; have := HF2.out; omega)] at h
      rw [h1, h3, HTL.out]
      have e : ((tot : Nat) : Int) = (n : Int) + len := by have := HTot.out; omega
      rw [e]
      exact h
  case' inr.inr =>
    have hA0 : (0 : Int) < r := by omega
    have hXl : X.length = f := by rw [hX, List.length_take]; have := HN.out; omega
    have hF3 : (r : Int) + f = 64 := by omega
    have HC1 : Hid ((kv .u8 X).length = Nat.min len f) := by show _ = min len f; rw [List.length_map, hXl]; omega
    have HC2 : Hid (∀ W', Turn b (hashObj (absorb l (n / 64)).list rest (n + len)) w W' → 0 < (kv .u8 X).length → ∃ ad, a = some ad ∧ ∀ j v, (kv .u8 X)[j]? = some v → W'.cell? (ad.add j) = some v) := by
      intro W' hW' h1
      rw [hX] at h1 ⊢
      exact (HP.out.turn hW').source f h1
    have HC3 : Hid (8 + r + (kv .u8 X).length ≤ (hashCells (absorb l (n / 64)).list rest (n + len)).length) := by
      show _ ≤ _
      have h1 := hash_size (n := (n : Int) + len) HSl HR1.out
      simp only [List.size_toArray] at h1
      rw [h1, List.length_map, hXl]
      omega
    have HXl := Lib.hid hXl
    obtain ⟨v0, hv0, hx0⟩ := HP.out.back (k := f) (by have := HN.out; omega)
    obtain ⟨a0, len0, cap0, rfl, hn0⟩ := hx0.slice
    have HX0 := Lib.hid hx0
    have HNl : Hid (len0 + f = len) := by have := HN.out; show _ = _; rw [hn0, List.length_drop]; omega
    obtain ⟨hp1, hp2⟩ := part_c HN0.out HR0.out HR3.out HR1.out HF.out hC (p := p) (by have := HN.out; omega)
    have HP1 := Kp.mk hp1
    have HP2 := Kp.mk hp2
    have HL2 : Hid (len0 + 64 * (n / 64 + 1) = tot) := by have := HR0.out; have := HTot.out; have := HNl.out; have := HF.out; show _ = _; omega
    have hl00 : len0 ≤ 1000000000000000 := by have := HNl.out; omega
    clear hX hf hx0 hn0 hp1 hp2 htot
    go_enter Tryd.func90, Tryd.ntmps90
    go_wp2_with (refine wpList_copy_turn rfl (.tmp 28) (.tmp 29) 131 131 rfl 5 Tryd.underlying131 info5' _ _ _ _ _ _ rfl rfl b (8 + r) (hashCells (absorb l (n / 64)).list rest (n + len)) 164 w HT1.out (kv .u8 X) HC1.out (fun h1 => ⟨rfl, HC2.out _ HT1.out h1⟩) HC3.out (kv_one _) ?_)
    intro w2 HT2
    clear hs
    have HXf : Hid (X.length = f) := HXl.out
    have HT3 : Hid (Turn b (hashObj (absorb l (n / 64)).list (splice rest r X) (n + len)) w w2) := by
      have h := HT2.out
      rw [splice_rest HSl (by rw [HXf.out, HR1.out]; exact Nat.le_of_eq HF.out)] at h
      exact h
    have hsl : (splice rest r X).length = 64 := by rw [splice_len (by rw [HXf.out, HR1.out]; exact Nat.le_of_eq HF.out)]; exact HR1.out
    have hsb : Bytes (splice rest r X) := splice_bytes HR2.out (by rw [HX.out]; exact HP.out.h.bytes.take _)
    have HSL := Kp.mk hsl
    have HSB := Kp.mk hsb
    have HHB : Hid (HoldsB w2 w2.heap.size (.slice (some ⟨b, 8, none⟩) 64 64) (splice rest r X)) :=
      HoldsB.ofRow2 HT3.out.blk hsl.symm (Nat.le_refl _) (by unfold maxLen; omega) (fun i hi => hash_rest HSl hi) hsb
    clear hsl hsb
    go_wp2_with fail
    refine (compress_any _ b (absorb l (n / 64)) (splice rest r X) (n + len) _ _ w2 (HK.out.turn HT3.out HH0.out) HT3.out.blk HSL.out HHB.out HSL.out).mono ?_
    rintro r3 w3 ⟨rfl, h3⟩
    have HT4 := Lib.hid (HT3.out.trans h3)
    clear h3
    go_wp2_with fail
    obtain ⟨m, hm⟩ : ∃ m, m = n / 64 + 1 := ⟨_, rfl⟩
    have hp1 := HP1.out
    have hp2 := HP2.out
    rw [← HX.out, ← hm] at hp1
    rw [← hm] at hp2
    have HL : Hid (len0 + 64 * m = tot) := by have := HL2.out; rw [← hm] at this; exact this
    have HP0 : Hid (HoldsX w b (.slice a0 len0 cap0) ((l ++ p).drop (64 * m))) := by show HoldsX _ _ _ _; rw [hp2]; exact HX0.out
    refine wp_world (fun W => Turn b (hashObj (absorb (l ++ p) m).list (splice rest r X) tot) w W) (by
      have h := HT4.out
      rw [hp1] at h
      have e : ((tot : Nat) : Int) = (n : Int) + len := by have := HTot.out; omega
      rw [e]
      exact h) ?_
    intro W hW
    have HT0 := Lib.hid hW
    have hR1 := HSL.out
    have hR2 := HSB.out
    have HLT : Hid (len0 ≤ tot) := by have := HL.out; show _ ≤ _; omega
    clear hp1 hp2 hm hW hA0 HT1 er f72 c72 hl00
    generalize splice rest r X = R at HT0 hR1 hR2
  all_goals
    have hbt : Hid (tot ≤ 1000000000000000) := by have := HTot.out; have := HLT.out; have := HNB.out; show _ ≤ _; omega
    have hl0 : len0 ≤ 1000000000000000 := by have := hbt.out; have := HLT.out; omega
    have HR1k := Lib.hid hR1
    have HR2k := Lib.hid hR2
    have hq : (len0 : Int) / 64 = ((len0 / 64 : Nat) : Int) := by omega
    obtain ⟨q, hq0⟩ : ∃ q, q = len0 / 64 := ⟨_, rfl⟩
    have hqb : q ≤ 1000000000000000 := by omega
    rw [hq, ← hq0]
    have HQ := Lib.hid hq0
    clear hq hq0 hR1 hR2
    go_loopw [1, 47] (fun s1 c wr => ∃ (i : Nat) (a1 : Option Addr) (len1 cap1 : Nat), i ≤ q ∧ c = .int .i64 i ∧ s1 = .slice a1 len1 cap1 ∧ HoldsX w b (.slice a1 len1 cap1) ((l ++ p).drop (64 * (m + i))) ∧
      Turn b (hashObj (absorb (l ++ p) (m + i)).list R tot) w wr) (fun _ c _ => q - (intOf c).toNat)
    case atStart => exact ⟨0, a0, len0, cap0, by omega, rfl, rfl, HP0.out, HT0.out⟩
    case round =>
      obtain ⟨i, a1, len1, cap1, hi, rfl, rfl, hx, ht⟩ := hrel
      have HX1 := Kp.mk hx
      have HTu := Kp.mk ht
      have hl1 : len1 + 64 * (m + i) = tot := by
        obtain ⟨a', n', cap', e1, e2⟩ := hx.slice
        simp only [Value.slice.injEq] at e1
        rw [e1.2.1, e2, List.length_drop, HTL.out]
        have := HL.out
        have := HQ.out
        omega
      have HL1 := Lib.hid hl1
      clear hx ht
      by_cases hlt : i < q
      · have h64 : 64 ≤ ((l ++ p).drop (64 * (m + i))).length := by
          rw [List.length_drop, HTL.out]
          have := HL.out
          have := HQ.out
          omega
        obtain ⟨v1, hv1, hx1⟩ := HX1.out.front h64
        obtain ⟨v2, hv2, hx2⟩ := HX1.out.back h64
        obtain ⟨a2, len2, cap2, rfl, -⟩ := hx2.slice
        have hv3 : ∀ w1, (Instr.sliceAt 131 (.slice a1 len1 cap1) none (some (.int .i64 64)) none).run Tryd.prog w1 = .ok v1 w1 := hv1
        have hv4 : ∀ w1, (Instr.sliceAt 131 (.slice a1 len1 cap1) (some (.int .i64 64)) none none).run Tryd.prog w1 = .ok (.slice a2 len2 cap2) w1 := hv2
        have HX3 := Kp.mk hx1
        have HX4 := Kp.mk hx2
        have HC6 : Kp ((((l ++ p).drop (64 * (m + i))).take 64).length = 64) := ⟨by rw [List.length_take]; omega⟩
        clear hv1 hv2 hx1 hx2 h64 hl1
        go_wp2_with fail
        refine (compress_any _ b (absorb (l ++ p) (m + i)) R tot _ _ wr (HK.out.turn HTu.out HH0.out) HTu.out.blk HR1k.out (HX3.out.turn HTu.out).h HC6.out).mono ?_
        rintro r3 w3 ⟨rfl, h3⟩
        have HT4 := Kp.mk (HTu.out.trans h3)
        clear h3
        go_wp2_with fail
        go_roundw
        case rel =>
          refine ⟨i + 1, a2, len2, cap2, by omega, by go_num, rfl, ?_, HT4.out⟩
          have h := HX4.out
          rw [List.drop_drop] at h
          exact h
        case measure => simp [intOf]; omega
      · have HI : Hid (i = q) := by show _ = _; omega
        have hge : (q : Int) ≤ i := by omega
        have hib : i ≤ 1000000000000000 := by omega
        obtain ⟨Y, hY⟩ : ∃ Y, Y = (l ++ p).drop (64 * (m + i)) := ⟨_, rfl⟩
        have HY := Kp.mk hY
        have HXY : Kp (HoldsX w b (.slice a1 len1 cap1) Y) := ⟨by rw [hY]; exact HX1.out⟩
        clear hY
        have HC1 : Hid ((kv .u8 Y).length = Nat.min len1 64) := by
          show _ = min len1 64
          rw [List.length_map, HY.out, List.length_drop, HTL.out]
          have := HL.out
          have := HQ.out
          have := HI.out
          omega
        have HC2 : Hid (∀ W', Turn b (hashObj (absorb (l ++ p) (m + i)).list R tot) w W' → 0 < (kv .u8 Y).length → ∃ ad, a1 = some ad ∧ ∀ j v, (kv .u8 Y)[j]? = some v → W'.cell? (ad.add j) = some v) :=
          fun W' hW' h1 => (HXY.out.turn hW').h.source h1
        have HC3 : Hid (8 + (kv .u8 Y).length ≤ (hashCells (absorb (l ++ p) (m + i)).list R tot).length) := by
          show _ ≤ _
          have h1 := hash_size (n := (tot : Int)) (list_len (absorb (l ++ p) (m + i))) HR1k.out
          simp only [List.size_toArray] at h1
          have h2 := HC1.out
          rw [h1, h2]
          have : Nat.min len1 64 ≤ 64 := Nat.min_le_right _ _
          omega
        clear hlt hi hl1
        go_wp2_with (refine wpList_copy_turn rfl (.tmp 59) (.tmp 60) 131 131 rfl 5 Tryd.underlying131 info5' _ _ _ _ _ _ rfl rfl b 8 (hashCells (absorb (l ++ p) (m + i)).list R tot) 164 w HTu.out (kv .u8 Y) HC1.out (fun h1 => ⟨rfl, HC2.out _ HTu.out h1⟩) HC3.out (kv_one _) ?_)
        intro w5 HT5
        go_wp2_with fail
        go_end0
        have e1 : (l ++ p).length / 64 = m + i := by rw [HTL.out]; have := HL.out; have := HQ.out; have := HI.out; omega
        have e2 : ((l ++ p).drop (64 * (m + i))).length = (l ++ p).length % 64 := by rw [List.length_drop]; omega
        have e3 : 0 + ((l ++ p).drop (64 * (m + i))).length ≤ R.length := by rw [HR1k.out, e2]; omega
        refine ⟨rfl, splice R 0 ((l ++ p).drop (64 * (m + i))), ?_, splice_bytes HR2k.out HX1.out.h.bytes, ?_, ?_⟩
        · rw [splice_len e3]; exact HR1k.out
        · rw [e1, ← e2]
          have h := splice_take (l := R) (cs := (l ++ p).drop (64 * (m + i))) (off := 0) (by omega)
          simpa using h
        · have h := HT5.out
          have h2 : Turn b (.cells (splice (hashCells (absorb (l ++ p) (m + i)).list R tot) (8 + 0) (kv .u8 Y)).toArray 164) w w5 := h
          rw [HY.out, splice_rest (off := 0) (list_len _) e3] at h2
          rw [e1, HTL.out]
          exact h2
end Go.Proofs.YtibbinenhmiclaaDoor

namespace Go.Proofs.YtibbinenhmiclaaDoor
open Go.RowKit

/-- The blocks of n bytes, of any n. -/
def blkI (n : Int) : Int := if n < 0 then 1 else if n % 64 ≤ 55 then n / 64 + 1 else n / 64 + 2
theorem blkI_nat (n : Nat) : blkI n = (blocks n : Nat) := by
  unfold blkI blocks
  rw [if_neg (by omega)]
  split <;> split <;> omega
set_option maxHeartbeats 400000 in
theorem blocks_any (n : Int) (w : World) (h2 : n ≤ 9223372036854775807) :
    Calls Tryd.prog 109 #[.int .i64 n] w fun r w' => r = .returned (.int .i64 (blkI n)) ∧ w' = w := by
  by_cases h0 : n < 0
  · have HE : Hid (blkI n = 1) := by show _ = _; unfold blkI; rw [if_pos h0]
    go_enter Tryd.func109, Tryd.ntmps109
    go_wp2_with fail
    go_ret
    exact ⟨reti HE.out.symm, rfl⟩
  · by_cases h5 : n % 64 ≤ 55
    · have HE : Hid (blkI n = n / 64 + 1) := by show _ = _; unfold blkI; rw [if_neg h0, if_pos h5]
      have t1 : decide (56 ≤ n % 64) = false := by simp; omega
      have h00 : 0 ≤ n := by omega
      clear h0 h5
      go_enter Tryd.func109, Tryd.ntmps109
      go_wp2_with fail
      go_ret
      exact ⟨reti HE.out.symm, rfl⟩
    · have HE : Hid (blkI n = n / 64 + 2) := by show _ = _; unfold blkI; rw [if_neg h0, if_neg h5]
      have t1 : decide (56 ≤ n % 64) = true := by simp; omega
      have h00 : 0 ≤ n := by omega
      clear h0 h5
      go_enter Tryd.func109, Tryd.ntmps109
      go_wp2_with fail
      go_ret
      exact ⟨reti HE.out.symm, rfl⟩
end Go.Proofs.YtibbinenhmiclaaDoor

namespace Go.Proofs.YtibbinenhmiclaaDoor
open Go.RowKit

/-- The bytes behind a text of n bytes, but for the last of the length's. -/
def tl (n k : Nat) : List Int := [128] ++ List.replicate (zeros n) 0 ++ (be64 (8 * (n : Int) % 18446744073709551616)).take k
theorem be64_len (n : Int) : (be64 n).length = 8 := by simp [be64]
theorem tl_len (n k : Nat) (h : k ≤ 8) : (tl n k).length = zeros n + 1 + k := by simp [tl, be64_len]; omega
theorem tl_full (n : Nat) : tl n 8 = tail n := by unfold tl tail; rw [List.take_of_length_le (by rw [be64_len]; omega)]
theorem be64_get (n : Int) (j : Nat) (h : j < 8) : (be64 n).getD j 0 = n / 2 ^ (56 - 8 * j) % 256 := by
  match j, h with
  | 0, _ => rfl
  | 1, _ => rfl
  | 2, _ => rfl
  | 3, _ => rfl
  | 4, _ => rfl
  | 5, _ => rfl
  | 6, _ => rfl
  | 7, _ => rfl
theorem tl_succ (n k : Nat) (h : k < 8) : tl n (k + 1) = tl n k ++ [(8 * (n : Int) % 18446744073709551616) / 2 ^ (56 - 8 * k) % 256] := by
  unfold tl
  rw [← be64_get _ k h, List.take_succ_eq_append_getElem (by rw [be64_len]; exact h), List.append_assoc, List.getD_eq_getElem?_getD, List.getElem?_eq_getElem (by rw [be64_len]; exact h)]
  simp
theorem tl_bytes (n k : Nat) : Bytes (tl n k) := by
  intro x hx
  unfold tl at hx
  rcases List.mem_append.1 hx with hx | hx
  · rcases List.mem_append.1 hx with hx | hx
    · simp at hx; omega
    · have := List.eq_of_mem_replicate hx; omega
  · have := List.mem_of_mem_take hx
    unfold be64 at this
    obtain ⟨i, _, rfl⟩ := List.mem_map.1 this
    omega
theorem tl_zero (n : Nat) : fill 128 (tl n 0) = (fill 128 []).set 0 128 := by
  have hz : zeros n ≤ 63 := by unfold zeros; omega
  unfold fill tl
  simp only [List.take_zero, List.append_nil, List.length_append, List.length_cons, List.length_nil, List.length_replicate, List.nil_append, Nat.sub_zero]
  rw [List.append_assoc, List.replicate_append_replicate, show zeros n + (128 - (0 + 1 + zeros n)) = 127 by omega]
  rfl
theorem zeros_blocks (n : Nat) : 64 * blocks n = n + zeros n + 9 := by
  unfold blocks zeros
  split <;> omega
set_option maxRecDepth 100000 in
theorem slice99 (t k : Nat) (h : k ≤ 128) (w : World) : (Instr.sliceAt 170 (.pointer (some ⟨t, 0, none⟩)) none (some (.int .i64 k)) none).run Tryd.prog w = .ok (.slice (some ⟨t, 0, none⟩) k 128) w := by
  have hl : Tryd.prog.arrayLen 170 = 128 := by kernel_rfl
  have he : Tryd.prog.elem 170 = 5 := by kernel_rfl
  rw [run_sliceAt_array_h (ht := Tryd.underlying170) (h0 := by omega) (h2 := by rw [hl]; omega), hl, he, size5]
  simp only [Result.andThen, slicedAt, Int.toNat_natCast, Nat.mul_one]
  rw [if_neg (by omega)]
  have e : (⟨t, 0, none⟩ : Addr).add 0 = ⟨t, 0, none⟩ := by unfold Addr.add; split <;> simp_all
  rw [e]
  rfl
set_option maxRecDepth 100000 in
set_option maxHeartbeats 1000000 in
theorem end_any (b : Nat) (l : List Int) (w : World) (hk : KonIs w) (h0 : 0 < b) (hH : HashIs w b l) (hlen : l.length ≤ 999999999999000) :
    Calls Tryd.prog 105 #[.pointer (some ⟨b, 0, none⟩)] w fun r w' => r = .returned (.tuple #[]) ∧ HashTurn b (pad l) w w' := by
  have hH' := hH
  obtain ⟨rest, hr1, hr2, hr3, hB⟩ := hH'
  obtain ⟨n, hn0⟩ : ∃ n, n = l.length := ⟨_, rfl⟩
  rw [← hn0] at hB hr3 hlen
  have c72 : w.cell? ⟨b, 72, none⟩ = some (.int .i64 n) := by rw [hB.cell, hash_taken (list_len _) hr1]
  obtain ⟨B, hBl⟩ : ∃ B, B = blocks n := ⟨_, rfl⟩
  obtain ⟨z, hz⟩ : ∃ z, z = zeros n := ⟨_, rfl⟩
  have hbz := zeros_blocks n
  rw [← hBl, ← hz] at hbz
  have hz63 : z ≤ 63 := by rw [hz]; unfold zeros; omega
  have ebl := blkI_nat n
  rw [← hBl] at ebl
  have HEB := Lib.hid ebl
  have HK := Lib.hid hk
  have HH := Lib.hid hH
  have HN0 := Lib.hid hn0
  have HH0 := Lib.hid h0
  have HBZ := Lib.hid hbz
  have HZ := Lib.hid hz
  have HLt : Hid (b < w.heap.size) := hB.lt
  have bB : (B : Int) ≤ 1000000000000000 := by omega
  have bn : n ≤ 999999999999000 := hlen
  have hsz : 64 * (B : Int) - n = (z : Int) + 9 := by omega
  have HSZ := Lib.hid hsz
  clear hk hH hn0 h0 hB hr1 hr2 hr3 hBl hz hbz ebl hlen hsz
  have CB : Kp (∀ w, Calls Tryd.prog 109 #[.int .i64 n] w fun r w' => r = .returned (.int .i64 B) ∧ w' = w) := ⟨fun w => by have := blocks_any n w (by omega); rw [HEB.out] at this; exact this⟩
  have h8n : 8 * (n : Int) % 18446744073709551616 = (n : Int) * 8 := by omega
  have H8 := Kp.mk h8n
  clear h8n
  go_enter Tryd.func105, Tryd.ntmps105
  go_wp2_with fail
  refine wp_world (fun W => Row W w.heap.size 170 .u8 (fill 128 []) ∧ Below w.heap.size w W) ⟨Blk.newAt _ rfl, more (Below.refl _ _) _⟩ ?_
  rintro w2 ⟨hr, hb⟩
  have c72' : w2.cell? ⟨b, 72, none⟩ = some (.int .i64 n) := (World.cell?_of_block (w := w) (a := ⟨b, 72, none⟩) (hb.block b HLt.out)).trans c72
  have HR := Kp.mk hr
  have HB := Kp.mk hb
  clear hr hb c72
  go_quiet ((go_at_call 109; exact Calls.quiet_of_same (CB.out _)))
  have HR2 := Kp.mk (HR.out.drewN nq)
  have HB2 := Kp.mk (below_drewN HB.out nq)
  clear c72' HR HB
  generalize w2.drewN nq = w3 at *
  have cw := HR2.out.cell (i := 0) (by rw [fill_len (by simp)]; omega)
  have fw := HR2.out.frozen 0
  go_wp2_with fail
  have hsz : (B : Int) * 64 - n = (z : Int) + 9 := by have := HSZ.out; omega
  rw [hsz]
  clear hsz cw fw
  generalize hE : (n : Int) * 8 = E
  have e0 : 0 ≤ E := by omega
  have e1 : E ≤ 9000000000000000 := by omega
  have HE := Kp.mk hE
  clear hE
  refine wp_world (fun W => Row W w.heap.size 170 .u8 (fill 128 (tl n 0)) ∧ Below w.heap.size w W) ⟨by rw [tl_zero]; exact HR2.out.set 0 128, HB2.out.setCell (by simp) _⟩ ?_
  rintro w4 ⟨hr, hb⟩
  have HR3 := Kp.mk hr
  have HB3 := Kp.mk hb
  clear hr hb HR2 HB2
  go_loopw [24] (fun c wr => ∃ j : Nat, j ≤ 8 ∧ c = .int .i64 j ∧ Row wr w.heap.size 170 .u8 (fill 128 (tl n j)) ∧ Below w.heap.size w wr) (fun c _ => 8 - (intOf c).toNat)
  case atStart => exact ⟨0, by omega, rfl, HR3.out, HB3.out⟩
  case round =>
    obtain ⟨j, hj, rfl, hr, hb⟩ := hrel
    have HR4 := Kp.mk hr
    have HB4 := Kp.mk hb
    clear hr hb HR3 HB3
    by_cases hlt : j < 8
    · have hpl := tl_len n j hj
      rw [← HZ.out] at hpl
      have HPL := Kp.mk hpl
      have cw := HR4.out.cell (i := z + 1 + j) (by rw [fill_len (by omega)]; omega)
      have fw := HR4.out.frozen (z + 1 + j)
      clear hpl
      go_wp2_with fail
      refine ⟨⟨j + 1, by omega, by go_num, ?_, HB4.out.setCell (by simp) _⟩, by simp [intOf]; omega⟩
      refine (HR4.out.set (z + 1 + j) _).as ?_
      rw [tl_succ n j hlt, ← fill_set (by rw [HPL.out]; omega), HPL.out, H8.out, HE.out]
    · have HJ : Kp (j = 8) := ⟨by omega⟩
      have hge : 8 ≤ (j : Int) := by omega
      have hs := slice99 w.heap.size (z + 9) (by omega)
      rw [show ((z + 9 : Nat) : Int) = (z : Int) + 9 by omega] at hs
      have hl : (tl n 8).length = z + 9 := by rw [tl_len n 8 (by omega), HZ.out]
      have HHX : Kp (HoldsX wr b (.slice (some ⟨w.heap.size, 0, none⟩) (z + 9) 128) (tl n 8)) := by
        have hr := HR4.out
        rw [HJ.out] at hr
        refine ⟨(HoldsB.ofRow2 (off := 0) hr hl.symm (by omega) (by unfold maxLen; omega) (fun i hi => ?_) (tl_bytes n 8)), ?_⟩
        · simp only [Nat.zero_add, List.getElem?_toArray, List.getElem?_map]
          have h1 := fill_get (n := 128) hi
          have h2 : i < (fill 128 (tl n 8)).length := by rw [fill_len (by omega)]; omega
          rw [List.getD_eq_getElem?_getD, List.getElem?_eq_getElem h2] at h1
          rw [List.getElem?_eq_getElem h2, ← h1]
          rfl
        · intro x k c he _
          simp only [Value.slice.injEq, Option.some.injEq] at he
          rw [← he.1]
          have := HLt.out
          show w.heap.size ≠ b
          omega
      have HL := Kp.mk hl
      clear hlt hj hl
      go_wp2_with fail
      refine (write_any b l (tl n 8) _ wr (HK.out.keep HB4.out) HH0.out (HH.out.keep HB4.out) HHX.out (by rw [HL.out, ← HN0.out]; omega)).mono ?_
      rintro r w5 ⟨rfl, h5⟩
      have H5 := Kp.mk h5
      clear h5
      go_wp2_with fail
      go_end0
      obtain ⟨rest', q1, q2, q3, q4⟩ := H5.out
      have e : l ++ tl n 8 = pad l := by unfold pad; rw [tl_full, HN0.out]
      rw [e] at q3 q4
      exact ⟨rfl, rest', q1, q2, q3, Turn.ahead HB4.out q4⟩
end Go.Proofs.YtibbinenhmiclaaDoor

namespace Go.Proofs.YtibbinenhmiclaaDoor
open Go.RowKit

/-- append of bytes that stand somewhere, to a row of the call's own. -/
theorem wpList_append_holds {w : World} {ops : Array Oper} {rest : List Oper} {o : Oper} {a : Act} {Q : Exit → Act → World → Prop} (hgd : o.guard = none) (s x : Operand)
    (ho : o.op = .call { callee := .builtin .append, args := #[s, x], argTypes := #[131, 131] })
    (base : Nat) (v : Value) (n : Nat) (xs : List Value) (hs : a.eval s = v) (hown : w.ownsRow base 5 1 v n xs)
    (M : Nat) (u : Value) (p : List Int) (hx : a.eval x = u) (hp : HoldsB w M u p) (h63 : n + p.length ≤ 140737488355328) (hbase : base ≤ w.heap.size)
    (h : ∀ v' w', w'.ownsRow base 5 1 v' (n + p.length) (xs ++ bv p) → w.grownBy w' v.ownBlock → wpList Tryd.prog ops Q rest (a.put o.dst v') w') : wpList Tryd.prog ops Q (o :: rest) a w := by
  obtain ⟨i0, hi, hz0, hz1, hz2⟩ := info_parts info5
  obtain ⟨ad, m, cap, rfl, hm⟩ := hp.slice
  cases ad with
  | none =>
    obtain ⟨a', cap', h1, h2, h3, h4, h5, h6, h7⟩ := hp
    simp only [Value.slice.injEq] at h1
    have hc := h4 h1.1.symm
    have hl : p = [] := List.length_eq_zero_iff.1 (by omega)
    subst hl
    have hx' : a.eval x = .slice none 0 0 := by rw [hx]; simp only [Value.slice.injEq, true_and]; exact ⟨by simpa using hm, by omega⟩
    exact wpList_append_own_none hgd s x 131 ho base 5 i0 1 Tryd.underlying131 hi v n xs hs hown hx' (h v w (by simpa using hown) ⟨rfl, rfl, rfl, Nat.le_refl _, fun _ _ _ => rfl⟩)
  | some ad =>
    refine wpList_append_own w hgd s x 131 ho base 5 i0 (.int .u8 0) 1 1 Tryd.underlying131 hi hz0 hz1 hz2 rfl (by decide) v n xs hs hown ad m cap (bv p) hx (by rw [bv_len]; omega) hp.news (bv_one _) (by unfold maxLen; omega) (by omega) hbase fun v' w' h1 h2 _ => ?_
    rw [hm] at h1
    exact h v' w' h1 h2
theorem row_slice {w : World} {base n : Nat} {v : Value} {xs : List Value} (h : w.ownsRow base 5 1 v n xs) : ∃ a c, v = .slice a n c := by
  rcases h.2 with ⟨rfl, hn⟩ | ⟨g, cap, cur, rfl, _⟩
  · subst hn; exact ⟨_, _, rfl⟩
  · exact ⟨_, _, rfl⟩
/-- One byte in a new block, as a slice. -/
theorem one_holds (w : World) (x : Int) (h : 0 ≤ x ∧ x ≤ 255) : HoldsB (w.alloc (.cells #[.int .u8 x] 5)) (w.alloc (.cells #[.int .u8 x] 5)).heap.size (.slice (some ⟨w.heap.size, 0, none⟩) 1 1) [x] :=
  HoldsB.ofRow2 (off := 0) (Blk.new w _) rfl (Nat.le_refl _) (by unfold maxLen; omega) (fun i hi => match i, hi with | 0, _ => rfl | i + 1, hi => absurd hi (by simp)) (fun y hy => by simp at hy; subst hy; exact h)
/-- What stands in the length's bytes behind j rounds. -/
def lowst (E : Int) (j : Nat) : List Int := List.replicate (8 - j) 0 ++ (be64 E).drop (8 - j)
theorem lowst_len (E : Int) (j : Nat) (_h : j ≤ 8) : (lowst E j).length = 8 := by simp [lowst, be64_len]
theorem lowst_zero (E : Int) : lowst E 0 = List.replicate 8 0 := by simp [lowst, be64]
theorem lowst_full (E : Int) : lowst E 8 = be64 E := by simp [lowst]
theorem lowst_set (E : Int) (j : Nat) (h : j < 8) : (lowst E j).set (7 - j) (E / 256 ^ j % 256) = lowst E (j + 1) := by
  match j, h with
  | 0, _ => exact (show [0, 0, 0, 0, 0, 0, 0, E / 256 ^ 0 % 256] = lowst E 1 from rfl)
  | 1, _ => rfl
  | 2, _ => rfl
  | 3, _ => rfl
  | 4, _ => rfl
  | 5, _ => rfl
  | 6, _ => rfl
  | 7, _ => rfl
theorem be64_bytes (E : Int) : Bytes (be64 E) := by
  intro x hx
  unfold be64 at hx
  obtain ⟨i, _, rfl⟩ := List.mem_map.1 hx
  omega
theorem ownsRow_set {w : World} {base n size D i : Nat} {e : TypeId} {v x : Value} {xs : List Value} (h : w.ownsRow base e size v n xs) (hne : v.ownBlock ≠ some D) : (w.setCell ⟨D, i, none⟩ x).ownsRow base e size v n xs :=
  h.kept (row := some D) ⟨rfl, rfl, rfl, by simp [World.setCell], fun k _ hk => Below.heap_setCell _ _ _ _ (fun e => hk (by simp [e]))⟩ (Or.inr hne)
def sliceLen : Value → Nat
  | .slice _ n _ => n
  | _ => 0
abbrev pre (p : List Int) (k : Nat) : List Int := p ++ ([128] ++ List.replicate k 0)
theorem pre_len (p : List Int) (k : Nat) : (pre p k).length = p.length + 1 + k := by simp; omega
theorem pre_succ (p : List Int) (k : Nat) : pre p (k + 1) = pre p k ++ [0] := by
  unfold pre
  rw [List.replicate_succ']
  simp
theorem pre_pad (p : List Int) : pre p (zeros p.length) ++ be64 (8 * (p.length : Int) % 18446744073709551616) = pad p := by
  unfold pre pad tail
  simp
end Go.Proofs.YtibbinenhmiclaaDoor

namespace Go.Proofs.YtibbinenhmiclaaDoor
open Go.RowKit

/-- The slice v shows rows of bytes. -/
def HoldsP (w : World) (v : Value) (zs : List (List Int)) : Prop :=
  ∃ a cap, v = .slice a zs.length cap ∧ zs.length ≤ maxLen ∧ ∀ i, i < zs.length → ∃ b off a1 n1 c1, a = some ⟨b, off, none⟩ ∧ b < w.heap.size ∧ w.cell? ⟨b, off + i, none⟩ = some (.slice a1 n1 c1) ∧ HoldsB w w.heap.size (.slice a1 n1 c1) (zs.getD i [])
theorem HoldsP.keep {w w' : World} {v : Value} {zs : List (List Int)} (h : HoldsP w v zs) (hb : Below w.heap.size w w') : HoldsP w' v zs := by
  obtain ⟨a, cap, h1, h2, h3⟩ := h
  refine ⟨a, cap, h1, h2, fun i hi => ?_⟩
  obtain ⟨b, off, a1, n1, c1, e1, e2, e3, e4⟩ := h3 i hi
  exact ⟨b, off, a1, n1, c1, e1, Nat.lt_of_lt_of_le e2 hb.size, (hb.cell (p := ⟨b, off + i, none⟩) e2).trans e3, (e4.keep hb).mono hb.size⟩
theorem HoldsP.slice {w : World} {v : Value} {zs : List (List Int)} (h : HoldsP w v zs) : ∃ a n cap, v = .slice a n cap ∧ n = zs.length := by
  obtain ⟨a, cap, h1, _⟩ := h
  exact ⟨a, _, cap, h1, rfl⟩
open Go.ChangeShapes Go.WideShapes Go.ChangeAt Go.Deep in
theorem trod_row {H : Type} {enc : TypeId × Value → H} {W : World} {n : Nat} {V : Value} {d : DataW H} {p : List MemPlace}
    (h : DataW.trod enc Tryd.prog W 0 (fun _ => true) true n 131 [V] = some (d, p)) : ∃ a len cap l, V = .slice a len cap ∧ HoldsB W W.heap.size (.slice a len cap) l := by
  rcases open_slice1 Tryd.underlying131 (by kernel_rfl) h with ⟨hcs, _⟩ | ⟨x, l, c, m, n', V', D, Pl, hcs, _⟩
  · simp only [List.cons.injEq, and_true] at hcs
    subst hcs
    exact ⟨_, _, _, [], rfl, HoldsB.nil _ _⟩
  · simp only [List.cons.injEq, and_true] at hcs
    subst hcs
    obtain ⟨l', h'⟩ := row_bytes (enc := enc) (W := W) (a := some x) (len := l) (cap := c) (d := d) (p := p) ⟨n, h⟩
    exact ⟨_, _, _, l', rfl, h'⟩
open Go.ChangeShapes Go.WideShapes Go.ChangeAt Go.Deep in
/-- A slice of slices of bytes that came in. -/
theorem row_parts {H : Type} {enc : TypeId × Value → H} {W : World} {a : Option Addr} {len cap : Nat} {d : DataW H} {p : List MemPlace}
    (k : DataW.Trod enc Tryd.prog W 0 (fun _ => true) true 150 (.slice a len cap) d p) : ∃ zs, HoldsP W (.slice a len cap) zs := by
  obtain ⟨fuel, hf⟩ := k
  rcases open_slice1 Tryd.underlying150 (by kernel_rfl) hf with ⟨hcs, _⟩ | ⟨x, l, c, m, n, V, D, Pl, hcs, hb, hl, hm, hmm, hx, hi⟩
  · simp [Value.cells] at hcs
    obtain ⟨rfl, rfl, rfl⟩ := hcs
    exact ⟨[], none, 0, rfl, by unfold maxLen; simp, fun i hi => by simp at hi⟩
  · simp [Value.cells] at hcs
    obtain ⟨rfl, rfl, rfl⟩ := hcs
    have hmc : m = cap := by simpa using hmm
    have each : ∀ i, i < len → ∃ l', ∃ a1 n1 c1, W.cell? (x.add i) = some (.slice a1 n1 c1) ∧ HoldsB W W.heap.size (.slice a1 n1 c1) l' := fun i him => by
      obtain ⟨hc, ht⟩ := hi i (by omega)
      obtain ⟨a1, n1, c1, l', e, hh⟩ := trod_row ht
      rw [e] at hc
      exact ⟨l', a1, n1, c1, hc, hh⟩
    obtain ⟨f, hf'⟩ : ∃ f : Nat → List Int, ∀ i, i < len → ∃ a1 n1 c1, W.cell? (x.add i) = some (.slice a1 n1 c1) ∧ HoldsB W W.heap.size (.slice a1 n1 c1) (f i) := by
      refine ⟨fun i => if h : i < len then Classical.choose (each i h) else [], fun i hi => ?_⟩
      simp only [hi, dif_pos]
      exact Classical.choose_spec (each i hi)
    refine ⟨(List.range len).map f, some x, cap, by simp, by simp; omega, fun i hi' => ?_⟩
    simp at hi'
    obtain ⟨a1, n1, c1, e1, e2⟩ := hf' i hi'
    have hsp : x.spot = none ∧ x.block < W.heap.size := by
      obtain ⟨_, _, _, h1, _⟩ := hf' 0 (by omega)
      have h2 : x.add 0 = x := by simp [Addr.add]
      rw [h2] at h1
      exact ⟨World.cell?_spot h1, World.block_lt_of_cell? W _ h1⟩
    obtain ⟨b, off, spot⟩ := x
    simp only at hsp
    obtain ⟨rfl, hlt⟩ := hsp
    have e : (⟨b, off, none⟩ : Addr).add i = ⟨b, off + i, none⟩ := by unfold Addr.add; split <;> simp_all
    rw [e] at e1
    refine ⟨b, off, a1, n1, c1, rfl, hlt, e1, ?_⟩
    rw [List.getD_eq_getElem?_getD, List.getElem?_map, List.getElem?_range hi']
    exact e2
end Go.Proofs.YtibbinenhmiclaaDoor

namespace Go.Proofs.YtibbinenhmiclaaDoor
open Go.RowKit

theorem row_upto {w w' : World} {base B n : Nat} {e : TypeId} {v : Value} {xs : List Value} (h : w.ownsRow base e 1 v n xs) (hlt : ∀ g, v.ownBlock = some g → g < B) (hb : Below B w w') : w'.ownsRow base e 1 v n xs := by
  obtain ⟨h1, h2⟩ := h
  refine ⟨h1, ?_⟩
  rcases h2 with h2 | ⟨g, cap, cur, e1, hg, hh, r⟩
  · exact .inl h2
  · subst e1
    exact .inr ⟨g, cap, cur, rfl, hg, (hb.block g (hlt g rfl)).trans hh, r⟩
theorem HashIs.upto {w w' : World} {b B : Nat} {l : List Int} (h : HashIs w b l) (hb : Below B w w') (hB : b < B) : HashIs w' b l := by
  obtain ⟨rest, h1, h2, h3, h4⟩ := h
  exact ⟨rest, h1, h2, h3, h4.upto hb hB⟩
theorem bits_u8 (op : BinOp) (x y : Int) : 0 ≤ bits op .u8 x y ∧ bits op .u8 x y ≤ 255 := by
  unfold bits
  simp only [IntKind.wrap_u8']
  omega
/-- append of bytes to an empty row that the call made: what is handed back isn't nil. -/
theorem wpList_append_made {w : World} {ops : Array Oper} {rest : List Oper} {o : Oper} {a : Act} {Q : Exit → Act → World → Prop} (hgd : o.guard = none) (s x : Operand)
    (ho : o.op = .call { callee := .builtin .append, args := #[s, x], argTypes := #[131, 131] })
    (base g0 : Nat) (hs : a.eval s = .slice (some ⟨g0, 0, none⟩) 0 0) (hown : w.ownsRow base 5 1 (.slice (some ⟨g0, 0, none⟩) 0 0) 0 [])
    (M : Nat) (u : Value) (p : List Int) (hx : a.eval x = u) (hp : HoldsB w M u p) (h63 : p.length ≤ 140737488355328) (hbase : base ≤ w.heap.size)
    (h : ∀ g c w', w'.ownsRow base 5 1 (.slice (some ⟨g, 0, none⟩) p.length c) p.length (kv .u8 p) → w.grownBy w' (some g0) → wpList Tryd.prog ops Q rest (a.put o.dst (.slice (some ⟨g, 0, none⟩) p.length c)) w') : wpList Tryd.prog ops Q (o :: rest) a w := by
  obtain ⟨i0, hi, hz0, hz1, hz2⟩ := info_parts info5
  obtain ⟨ad, m, cap, rfl, hm⟩ := hp.slice
  cases ad with
  | none =>
    obtain ⟨a', cap', h1, h2, h3, h4, h5, h6, h7⟩ := hp
    simp only [Value.slice.injEq] at h1
    have hc := h4 h1.1.symm
    have hl : p = [] := List.length_eq_zero_iff.1 (by omega)
    subst hl
    have hx' : a.eval x = .slice none 0 0 := by rw [hx]; simp only [Value.slice.injEq, true_and]; exact ⟨by simpa using hm, by omega⟩
    exact wpList_append_own_none hgd s x 131 ho base 5 i0 1 Tryd.underlying131 hi _ 0 [] hs hown hx' (h g0 0 w hown ⟨rfl, rfl, rfl, Nat.le_refl _, fun _ _ _ => rfl⟩)
  | some ad =>
    refine wpList_append_own w hgd s x 131 ho base 5 i0 (.int .u8 0) 1 1 Tryd.underlying131 hi hz0 hz1 hz2 rfl (by decide) _ 0 [] hs hown ad m cap (bv p) hx (by rw [bv_len]; omega) hp.news (bv_one _) (by unfold maxLen; omega) (by omega) hbase fun v' w' h1 h2 h3 => ?_
    rw [hm, Nat.zero_add, List.nil_append] at h1
    rcases h1.2 with ⟨rfl, hn⟩ | ⟨g, c, cur, rfl, _⟩
    · exact absurd (h3.1 rfl).1 (by simp)
    · exact h g c w' h1 h2
end Go.Proofs.YtibbinenhmiclaaDoor

namespace Go.Proofs.YtibbinenhmiclaaDoor
open Go.RowKit

theorem bytes_get (s : St) (i j : Nat) (hi : i < 8) (hj : j < 4) : s.bytes.getD (4 * i + j) 0 = s.list.getD i 0 / 2 ^ (24 - 8 * j) % 256 := by
  match j, hj with
  | 0, _ =>
    match i, hi with
    | 0, _ => rfl
    | 1, _ => rfl
    | 2, _ => rfl
    | 3, _ => rfl
    | 4, _ => rfl
    | 5, _ => rfl
    | 6, _ => rfl
    | 7, _ => rfl
  | 1, _ =>
    match i, hi with
    | 0, _ => rfl
    | 1, _ => rfl
    | 2, _ => rfl
    | 3, _ => rfl
    | 4, _ => rfl
    | 5, _ => rfl
    | 6, _ => rfl
    | 7, _ => rfl
  | 2, _ =>
    match i, hi with
    | 0, _ => rfl
    | 1, _ => rfl
    | 2, _ => rfl
    | 3, _ => rfl
    | 4, _ => rfl
    | 5, _ => rfl
    | 6, _ => rfl
    | 7, _ => rfl
  | 3, _ =>
    match i, hi with
    | 0, _ => exact (show s.a % 256 = s.a / 1 % 256 by rw [Int.ediv_one])
    | 1, _ => exact (show s.b % 256 = s.b / 1 % 256 by rw [Int.ediv_one])
    | 2, _ => exact (show s.c % 256 = s.c / 1 % 256 by rw [Int.ediv_one])
    | 3, _ => exact (show s.d % 256 = s.d / 1 % 256 by rw [Int.ediv_one])
    | 4, _ => exact (show s.e % 256 = s.e / 1 % 256 by rw [Int.ediv_one])
    | 5, _ => exact (show s.f % 256 = s.f / 1 % 256 by rw [Int.ediv_one])
    | 6, _ => exact (show s.g % 256 = s.g / 1 % 256 by rw [Int.ediv_one])
    | 7, _ => exact (show s.h % 256 = s.h / 1 % 256 by rw [Int.ediv_one])
theorem bytes_step (s : St) (k : Nat) (h : k < 32) : s.bytes.take (k + 1) = s.bytes.take k ++ [s.bytes.getD k 0] := by
  rw [List.take_succ_eq_append_getElem (by rw [bytes_len]; exact h), List.getD_eq_getElem?_getD, List.getElem?_eq_getElem (by rw [bytes_len]; exact h)]
  rfl
theorem be32_bytes (n : Int) : Bytes (be32 n) := by
  intro x hx
  simp [be32] at hx
  omega
theorem bytes_bytes (s : St) : Bytes s.bytes :=
  (((((((be32_bytes _).append (be32_bytes _)).append (be32_bytes _)).append (be32_bytes _)).append (be32_bytes _)).append (be32_bytes _)).append (be32_bytes _)).append (be32_bytes _)
theorem info77 : (Tryd.prog.info? 164).map (·.size) = some 73 := by kernel_rfl
theorem info68 : (Tryd.prog.info? 162).map (·.size) = some 8 := by kernel_rfl
theorem info25 : (Tryd.prog.info? 70).map (·.size) = some 32 := by kernel_rfl
theorem cells25 {l : List Int} (h : l.length = 32) : (Tryd.prog.info? 70).map (·.size) = some (kv .u8 l).toArray.size := by rw [info25, kv_size, h]
theorem hash_all (sl rest : List Int) (n : Int) : (hashCells sl rest n).toArray.all (·.oneCell') = true := Array.all_eq_true_iff_forall_mem.2 fun v hv => by
  have hv : v ∈ hashCells sl rest n := by simpa using hv
  unfold hashCells at hv
  rcases List.mem_append.1 hv with hv | hv
  · obtain ⟨x, _, rfl⟩ := List.mem_map.1 hv; rfl
  · rcases List.mem_append.1 hv with hv | hv
    · obtain ⟨x, _, rfl⟩ := List.mem_map.1 hv; rfl
    · simp at hv; subst hv; rfl
abbrev z25 : Obj := .cells (kv .u8 (fill 32 [])).toArray 70
/-- The numbers of a state, as the cells of an array. -/
abbrev stv (s : St) : List Value := [.int .u32 s.a, .int .u32 s.b, .int .u32 s.c, .int .u32 s.d, .int .u32 s.e, .int .u32 s.f, .int .u32 s.g, .int .u32 s.h]
theorem calls_world {P : Program} {f : FuncId} {args : Array Value} {w : World} {R : Ending → World → Prop} (F : World → Prop) (hF : F w) (h : ∀ w2, F w2 → Calls P f args w2 R) : Calls P f args w R := h w hF
theorem pad_state {w : World} {b : Nat} {l : List Int} (h : HashIs w b (pad l)) : w.rangeAt b 0 (stv (sumSt l)) := by
  obtain ⟨rest, h1, h2, h3, h4⟩ := h
  intro j v hv
  rw [h4.cell, Nat.zero_add]
  have hj : j < 8 := (List.getElem?_eq_some_iff.1 hv).1
  have e : (pad l).length / 64 = blocks l.length := by rw [pad_len]; omega
  rw [e] at h4 ⊢
  have h5 : stv (sumSt l) = kv .u32 (absorb (pad l) (blocks l.length)).list := rfl
  rw [h5] at hv
  unfold hashCells
  rw [List.getElem?_toArray, List.getElem?_append_left (by rw [List.length_map, list_len]; exact hj)]
  exact hv
set_option maxRecDepth 100000 in
set_option maxHeartbeats 1000000 in
theorem hsum_any (b : Nat) (l : List Int) (w : World) (hk : KonIs w) (_h0 : 0 < b) (hH : HashIs w b l) (hlen : l.length ≤ 999999999999000) :
    Calls Tryd.prog 91 #[.pointer (some ⟨b, 0, none⟩)] w fun r w' => r = .returned (.agg (kv .u8 (digest l)).toArray) ∧ Below w.heap.size w w' := by
  have HK := Lib.hid hk
  have HL := Lib.hid hlen
  have HLt := Lib.hid hH.lt
  obtain ⟨rest, hr1, hr2, hr3, hB⟩ := hH
  have HR1 := Lib.hid hr1
  have HR2 := Lib.hid hr2
  have HR3 := Lib.hid hr3
  have HB := Lib.hid hB
  have HC := Kp.mk (info77.trans (congrArg some (hash_size (n := (l.length : Int)) (list_len (absorb l (l.length / 64))) hr1).symm))
  have HZ : Kp (Tryd.zeroCells164.size = (hashCells (absorb l (l.length / 64)).list rest l.length).toArray.size) := ⟨by rw [hash_size (list_len _) hr1]; kernel_rfl⟩
  clear hk hlen hr1 hr2 hr3 hB
  obtain ⟨C, hC⟩ : ∃ C, C = (hashCells (absorb l (l.length / 64)).list rest l.length).toArray := ⟨_, rfl⟩
  have HCd := Kp.mk hC
  have HA : Kp (C.all (·.oneCell') = true) := ⟨by rw [hC]; exact hash_all _ _ _⟩
  have HB' : Hid (Blk w b (.cells C 164)) := by rw [hC]; exact HB.out
  rw [← hC] at HC HZ
  clear hC HB
  go_enter Tryd.func91, Tryd.ntmps91
  go_wp2_with (first
    | (refine wpList_load_row rfl 164 (.tmp 12) rfl b rfl 164 C (0, 0) _ (Blk.old HB'.out _) Tryd.underlying164 rfl HC.out ?_)
    | (refine wpList_store_row rfl 164 (.tmp 3) (.tmp 13) rfl (w.heap.size + 1) C rfl rfl 164 Tryd.zeroCells164 (Blk.newAt _ (by simp)) HC.out HZ.out HA.out ?_))
  refine calls_world (fun W => HashIs W (w.heap.size + 1) l ∧ Row W w.heap.size 70 .u8 (fill 32 []) ∧ Below w.heap.size w W)
    ⟨⟨rest, HR1.out, HR2.out, HR3.out, by have h := Blk.setRow (Blk.newAt (w := w.alloc z25) (b := w.heap.size + 1) (.cells Tryd.zeroCells164 164) (by simp)) C; rw [HCd.out] at h ⊢; exact h⟩,
      Row.otherRow (Row.alloc (Blk.newAt (w := w) z25 rfl) _) (by omega) _, Below.row (more (more (Below.refl _ _) z25) _) (by omega) _⟩ ?_
  rintro w2 ⟨hh, hr, hb⟩
  have HRo := Kp.mk hr
  have HBe := Kp.mk hb
  refine (end_any (w.heap.size + 1) l w2 (HK.out.keep hb) (by omega) hh HL.out).mono ?_
  rintro r w5 ⟨rfl, h5⟩
  have HR5 : Kp (Row w5 w.heap.size 70 .u8 (fill 32 [])) := by
    obtain ⟨rest', _, _, _, q4⟩ := h5
    exact ⟨q4.keep hr (by omega)⟩
  have HB5 : Kp (Below w.heap.size w w5) := by
    obtain ⟨rest', _, _, _, q4⟩ := h5
    exact ⟨hb.trans (q4.below (by omega) hb.size)⟩
  have HS5 := Kp.mk (pad_state h5.is)
  have HI5 := Kp.mk h5.is
  have H68 : Kp ((Tryd.prog.info? 162).map (·.size) = some (stv (sumSt l)).length) := ⟨info68⟩
  clear hh hr hb h5 HRo HBe
  go_wp2_with (refine wpList_load_mid rfl 162 (.tmp 15) rfl (w.heap.size + 1) 0 rfl (stv (sumSt l)) _ (fun j v hv => (Blk.cell (Blk.old (HI5.out.choose_spec.2.2.2) _) _).trans ((Blk.cell (HI5.out.choose_spec.2.2.2) _).symm.trans (HS5.out j v hv))) Tryd.underlying162 rfl H68.out ?_)
  obtain ⟨A, hA⟩ : ∃ A, A = w.heap.size := ⟨_, rfl⟩
  obtain ⟨D, hD⟩ : ∃ D, D = w5.heap.size := ⟨_, rfl⟩
  have hAD : A < D := by have h1 := HI5.out.choose_spec.2.2.2.lt; omega
  rw [← hA, ← hD]
  have HAe := Kp.mk hA
  refine wp_world (fun W => Row W D 70 .u8 (fill 32 ((sumSt l).bytes.take (4 * 0))) ∧ Row W A 70 .u8 (fill 32 []) ∧ Below A w W) ⟨by rw [hD]; exact Blk.new w5 z25, by rw [hA]; exact HR5.out.alloc _, by rw [hA]; exact (HB5.out.alloc HB5.out.size _)⟩ ?_
  rintro w6 ⟨h1, h2, h3⟩
  have H1 := Kp.mk h1
  have H2 := Kp.mk h2
  have H3 := Kp.mk h3
  have HD32 : Kp ((sumSt l).bytes = digest l) := ⟨rfl⟩
  clear h1 h2 h3 hA hD HR5 HB5 HS5 HI5 H68
  generalize sumSt l = S at *
  go_loopw [17] (fun c wr => ∃ i : Nat, i ≤ 8 ∧ c = .int .i64 i ∧ Row wr D 70 .u8 (fill 32 (S.bytes.take (4 * i))) ∧ Row wr A 70 .u8 (fill 32 []) ∧ Below A w wr) (fun c _ => 8 - (intOf c).toNat)
  case atStart => exact ⟨0, by omega, rfl, H1.out, H2.out, H3.out⟩
  case round =>
    obtain ⟨i, hi, rfl, h1, h2, h3⟩ := hrel
    have G1 := Kp.mk h1
    have G2 := Kp.mk h2
    have G3 := Kp.mk h3
    clear h1 h2 h3 H1 H2 H3
    by_cases hlt : i < 8
    · have hidx := index68 S i hlt
      generalize hx : S.list.getD i 0 = x at *
      have HX := Kp.mk hx
      clear hx
      go_wp2_with fail
      clear hidx
      go_loopw [21] (fun c wq => ∃ j : Nat, j ≤ 4 ∧ c = .int .i64 j ∧ Row wq D 70 .u8 (fill 32 (S.bytes.take (4 * i + j))) ∧ Row wq A 70 .u8 (fill 32 []) ∧ Below A w wq) (fun c _ => 4 - (intOf c).toNat)
      case atStart => exact ⟨0, by omega, rfl, G1.out, G2.out, G3.out⟩
      case round =>
        obtain ⟨j, hj, rfl, h1, h2, h3⟩ := hrel
        have F1 := Kp.mk h1
        have F2 := Kp.mk h2
        have F3 := Kp.mk h3
        clear h1 h2 h3 G1 G2 G3
        by_cases hlj : j < 4
        · have hl : (S.bytes.take (4 * i + j)).length = 4 * i + j := by rw [List.length_take, bytes_len]; omega
          have cw := F1.out.cell (i := 4 * i + j) (by rw [fill_len (by omega)]; omega)
          have fw := F1.out.frozen (4 * i + j)
          have HL2 := Kp.mk hl
          clear hl
          go_wp2_with fail
          refine ⟨⟨j + 1, by omega, by go_num, ?_, F2.out.other (by show D ≠ A; omega) _, F3.out.setCell (by show A ≤ D; omega) _⟩, by simp [intOf]; omega⟩
          refine (F1.out.set (4 * i + j) _).as ?_
          rw [← Nat.add_assoc, bytes_step S (4 * i + j) (by omega), bytes_get S i j hlt hlj, HX.out, ← fill_set (by rw [HL2.out]; omega), HL2.out]
        · have HJ : Kp (j = 4) := ⟨by omega⟩
          have hge : 4 ≤ (j : Int) := by omega
          clear hlj hj
          go_wp2_with fail
          refine ⟨⟨i + 1, by omega, by go_num, ?_, F2.out, F3.out⟩, by simp [intOf]; omega⟩
          have h := F1.out
          rw [HJ.out] at h
          exact h
    · have HI : Kp (i = 8) := ⟨by omega⟩
      have hge : 8 ≤ (i : Int) := by omega
      have HR : Kp (Row wr D 70 .u8 (digest l)) := by
        have h := G1.out
        rw [HI.out, List.take_of_length_le (by rw [bytes_len]; omega), fill_full (bytes_len S), HD32.out] at h
        exact ⟨h⟩
      have HC25 := Kp.mk (cells25 (digest_len l))
      have HZ25 : Kp ((kv .u8 (fill 32 [])).toArray.size = (kv .u8 (digest l)).toArray.size) := ⟨by rw [kv_size, kv_size, digest_len]; rfl⟩
      have HF := Kp.mk (G2.out.setRow (digest l))
      have HBf := Kp.mk (Below.row G3.out (g := A) (Nat.le_refl _) (kv .u8 (digest l)).toArray)
      clear hlt hi G1
      go_wp2_with (first
        | (refine wpList_load_row rfl 70 (.tmp 4) rfl D rfl 70 (kv .u8 (digest l)).toArray (0, 0) _ HR.out Tryd.underlying70 rfl HC25.out ?_)
        | (refine wpList_store_row rfl 70 (.tmp 2) (.tmp 37) rfl A (kv .u8 (digest l)).toArray rfl rfl 70 _ G2.out HC25.out HZ25.out (kv_all _ _) ?_))
      refine bodyPost_ret (v := .agg (kv .u8 (digest l)).toArray) ?_ rfl ⟨rfl, by rw [← HAe.out]; exact HBf.out⟩
      exact results_cell_row rfl _ _ A 70 _ (0, 0) _ rfl HF.out Tryd.underlying70 rfl HC25.out
theorem HoldsB.own {w : World} {M : Nat} {v : Value} {l : List Int} (h : HoldsB w M v l) : HoldsB w w.heap.size v l := by
  obtain ⟨a, cap, h1, h2, h3, h4, h5, h6, h7⟩ := h
  exact ⟨a, cap, h1, h2, h3, h4, fun x hx h0 => ⟨(h5 x hx h0).1, (h5 x hx h0).2.2, (h5 x hx h0).2.2⟩, h6, h7⟩
/-- Bytes that were there ahead of block b. -/
theorem HoldsB.apart {w w' : World} {M b : Nat} {v : Value} {l : List Int} (h : HoldsB w M v l) (hb : Below w.heap.size w w') (hle : w.heap.size ≤ b) : HoldsX w' b v l := by
  refine ⟨(h.own.keep hb).mono hb.size, ?_⟩
  obtain ⟨a, cap, rfl, h2, h3, h4, h5, h6, h7⟩ := h
  intro x n c he h0
  simp only [Value.slice.injEq] at he
  have := (h5 x he.1 (by omega)).2.2
  show x.block ≠ b
  omega
set_option maxRecDepth 100000 in
set_option maxHeartbeats 400000 in
/-- sha.Sum. -/
theorem sum_any (M : Nat) (v : Value) (p : List Int) (w : World) (hk : KonIs w) (hp : HoldsB w M v p) (hlen : p.length ≤ 999999999999000) :
    Calls Tryd.prog 106 #[v] w fun r w' => r = .returned (.agg (kv .u8 (digest p)).toArray) ∧ Below w.heap.size w w' := by
  have HK := Kp.mk hk
  have HP := Kp.mk hp
  have HL := Kp.mk hlen
  have HC25 := Kp.mk (cells25 (digest_len p))
  have HZ25 : Kp ((kv .u8 (fill 32 [])).toArray.size = (kv .u8 (digest p)).toArray.size) := ⟨by rw [kv_size, kv_size, digest_len]; rfl⟩
  have hpos := hk.pos
  have HPo := Kp.mk hpos
  clear hk hp hlen hpos
  go_enter Tryd.func106, Tryd.ntmps106
  go_wp2_with fail
  refine calls_world (fun W => Row W w.heap.size 70 .u8 (fill 32 []) ∧ Below w.heap.size w W ∧ w.heap.size < W.heap.size) ⟨Blk.newAt (w := w) z25 rfl, more (Below.refl _ _) z25, by simp⟩ ?_
  rintro w1 ⟨hr, hb, hs⟩
  have HR := Kp.mk hr
  have HB := Kp.mk hb
  have HS := Kp.mk hs
  clear hr hb hs
  refine (new_any w1).mono ?_
  rintro r w2 ⟨rfl, hh, hb⟩
  have HH := Kp.mk hh
  have HB2 := Kp.mk hb
  have HX : Kp (HoldsX w2 w1.heap.size v p) := ⟨HP.out.apart (HB.out.trans (hb.mono HB.out.size)) HB.out.size⟩
  clear hh hb
  go_wp2_with fail
  refine (write_any w1.heap.size [] p v w2 ((HK.out.keep HB.out).keep HB2.out) (by have := HS.out; omega) HH.out HX.out (by have := HL.out; simp; omega)).mono ?_
  rintro r w3 ⟨rfl, h3⟩
  have H3 := Kp.mk h3
  have HT3 : Kp (Below w1.heap.size w1 w3) := by
    obtain ⟨_, _, _, _, q⟩ := h3
    exact ⟨HB2.out.trans (q.below (Nat.le_refl _) HB2.out.size)⟩
  clear h3
  go_wp2_with fail
  refine (hsum_any w1.heap.size p w3 ((HK.out.keep HB.out).keep HT3.out) (by have := HS.out; omega) H3.out.is HL.out).mono ?_
  rintro r w4 ⟨rfl, h4⟩
  have HB4 : Kp (Below w1.heap.size w1 w4) := ⟨HT3.out.trans (h4.mono HT3.out.size)⟩
  have HR4 := Kp.mk (HR.out.keep HB4.out)
  have HF := Kp.mk (HR4.out.setRow (digest p))
  have HBf := Kp.mk (Below.row (HB.out.trans (HB4.out.mono HB.out.size)) (g := w.heap.size) (Nat.le_refl _) (kv .u8 (digest p)).toArray)
  clear h4
  go_wp2_with (refine wpList_store_row rfl 70 (.tmp 2) (.tmp 9) rfl w.heap.size (kv .u8 (digest p)).toArray rfl rfl 70 _ HR4.out HC25.out HZ25.out (kv_all _ _) ?_)
  refine bodyPost_ret (v := .agg (kv .u8 (digest p)).toArray) ?_ rfl ⟨rfl, HBf.out⟩
  exact results_cell_row rfl _ _ w.heap.size 70 _ (0, 0) _ rfl HF.out Tryd.underlying70 rfl HC25.out
end Go.Proofs.YtibbinenhmiclaaDoor

namespace Go.Proofs.YtibbinenhmiclaaDoor
end Go.Proofs.YtibbinenhmiclaaDoor

namespace Go.Proofs.YtibbinenhmiclaaDoor
open Go.RowKit

set_option maxRecDepth 100000 in
theorem slice25_all (b : Nat) (w : World) : (Instr.sliceAt 70 (.pointer (some ⟨b, 0, none⟩)) none none none).run Tryd.prog w = .ok (.slice (some ⟨b, 0, none⟩) 32 32) w := by
  have hl : Tryd.prog.arrayLen 70 = 32 := by kernel_rfl
  have he : Tryd.prog.elem 70 = 5 := by kernel_rfl
  rw [run_sliceAt_array_all (ht := Tryd.underlying70), hl, he, size5]
  rfl
theorem digest_bytes (l : List Int) : Bytes (digest l) := bytes_bytes _
theorem HoldsB.ofBytes {w : World} {b : Nat} {l : List Int} {t : TypeId} (h : Row w b t .u8 l) (hb : Bytes l) (hm : l.length ≤ maxLen) : HoldsB w w.heap.size (.slice (some ⟨b, 0, none⟩) l.length l.length) l :=
  HoldsB.ofRow2 (off := 0) h rfl (Nat.le_refl _) hm (fun i hi => by simp [List.getElem?_eq_getElem hi, List.getD_eq_getElem?_getD]) hb
end Go.Proofs.YtibbinenhmiclaaDoor
