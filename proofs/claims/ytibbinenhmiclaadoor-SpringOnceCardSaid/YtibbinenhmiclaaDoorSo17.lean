/-
  Light, Many of the document's answer; a map of what was told.
-/
import Derived.Test.YtibbinenhmiclaaDoorSo16
import Derived.Maps.OwnSet
import Derived.Maps.Views
namespace Go.Proofs.YtibbinenhmiclaaDoor
open Go.RowKit Go.Maps

def lightR (m : SpM) : Bool := rightR m.wd m.st m.ht && decide (m.ht ≤ 3 ∧ m.st ≤ 8)
set_option maxRecDepth 100000 in
set_option maxHeartbeats 1600000 in
theorem lightR_any (m : SpM) (w : World) :
    Calls Tryd.prog 15 #[.agg #[.int .i64 m.wd, .int .i64 m.st, .int .i64 m.ht]] w fun r w' => r = .returned (.bool (lightR m)) ∧ Below w.heap.size w w' := by
  have HF : Kp (lightR m = (rightR m.wd m.st m.ht && decide (m.ht ≤ 3 ∧ m.st ≤ 8))) := ⟨rfl⟩
  go_enter Tryd.func15, Tryd.ntmps15
  go_wp2_with fail
  refine (rrightR_any m.wd m.st m.ht _).mono ?_
  rintro r w1 ⟨rfl, h1⟩
  have q1 : w1.cell? ⟨w.heap.size, 1, none⟩ = some (.int .i64 m.st) := (Blk.keep (Blk.new w (.cells #[.int .i64 m.wd, .int .i64 m.st, .int .i64 m.ht] 23)) h1).cell 1
  have q2 : w1.cell? ⟨w.heap.size, 2, none⟩ = some (.int .i64 m.ht) := (Blk.keep (Blk.new w (.cells #[.int .i64 m.wd, .int .i64 m.st, .int .i64 m.ht] 23)) h1).cell 2
  have HB : Kp (Below w.heap.size w w1) := ⟨(more (Below.refl _ _) _).trans (h1.mono (by simp))⟩
  clear h1
  cases hr : rightR m.wd m.st m.ht
  all_goals rw [hr] at HF
  all_goals clear hr
  all_goals go_wp2_with fail
  all_goals (go_ret; refine ⟨retb (by rw [HF.out]; refine (Bool.eq_iff_iff.2 ?_); simp only [Bool.true_and, Bool.false_and, decide_eq_true_eq, Bool.false_eq_true, false_iff]; try omega), HB.out⟩)
set_option maxRecDepth 100000 in
set_option maxHeartbeats 1600000 in
theorem manyR_any (m : SpM) (w : World) (h : 0 ≤ m.ht ∧ m.ht ≤ 6) :
    Calls Tryd.prog 16 #[.agg #[.int .i64 m.wd, .int .i64 m.st, .int .i64 m.ht]] w fun r w' => r = .returned (.int .i64 ((2 ^ m.ht.toNat : Nat) : Int)) ∧ Below w.heap.size w w' := by
  obtain ⟨k, hk⟩ : ∃ k : Nat, m.ht = k := ⟨m.ht.toNat, by omega⟩
  have HK : Kp (m.ht.toNat = k ∧ k ≤ 6) := ⟨by omega, by omega⟩
  have HB : Kp (Below w.heap.size w (w.alloc (.cells #[.int .i64 m.wd, .int .i64 m.st, .int .i64 m.ht] 23)) ∧ Blk (w.alloc (.cells #[.int .i64 m.wd, .int .i64 m.st, .int .i64 m.ht] 23)) w.heap.size (.cells #[.int .i64 m.wd, .int .i64 m.st, .int .i64 m.ht] 23)) := ⟨more (Below.refl _ _) _, Blk.new _ _⟩
  rw [hk] at HB ⊢
  clear h
  go_enter Tryd.func16, Tryd.ntmps16
  go_wp2_with fail
  generalize w.alloc (.cells #[.int .i64 m.wd, .int .i64 m.st, .int .i64 k] 23) = W at *
  have q2 : W.cell? ⟨w.heap.size, 2, none⟩ = some (.int .i64 k) := HB.out.2.cell 2
  go_loopw [3, 4] (fun v3 c4 wr => ∃ i p : Nat, i ≤ k ∧ c4 = .int .i64 i ∧ v3 = .int .i64 p ∧ Kp (p = 2 ^ i) ∧ wr = W) (fun _ c _ => k - (intOf c).toNat)
  case atStart => exact ⟨0, 1, by omega, rfl, rfl, ⟨rfl⟩, rfl⟩
  case round =>
    obtain ⟨i, p, hi, rfl, rfl, HP, rfl⟩ := hrel
    have h64 : p ≤ 64 := by rw [HP.out]; exact Nat.le_trans (Nat.pow_le_pow_right (by decide) (show i ≤ 6 by have := HK.out.2; omega)) (by decide)
    have h6 := HK.out.2
    by_cases hlt : (i : Int) < (k : Int)
    · go_wp2_with fail
      exact ⟨⟨i + 1, 2 * p, by omega, by go_num, by go_num, ⟨by rw [HP.out, Nat.pow_succ, Nat.mul_comm]⟩, by first | trivial | rfl⟩, by simp [intOf]; omega⟩
    · obtain rfl : i = k := by omega
      go_wp2_with fail
      go_ret
      exact ⟨by simp [HP.out], HB.out.1⟩
theorem cntF_mono {f g : Nat → Option Value} : ∀ {n}, (∀ i, i < n → g i ≠ none → f i ≠ none) → cntF g n ≤ cntF f n
  | 0, _ => Nat.le_refl _
  | n + 1, h => by
    have h1 := cntF_mono (n := n) (fun i hi => h i (by omega))
    rw [cntF, cntF]
    have h2 := h n (by omega)
    cases hg : g n with
    | none => simp; split <;> omega
    | some x =>
      have := h2 (by rw [hg]; simp)
      cases hf : f n with
      | none => exact absurd hf this
      | some y => simp; omega
def encS (l : List Int) : DataW Unit := .agg (l.map fun x => .lit (.int .u8 x))
theorem encS_inj {x y : List Int} (h : encS x = encS y) : x = y := by
  unfold encS at h
  simp only [DataW.agg.injEq] at h
  exact (List.map_inj_right (fun a b hab => by simpa using hab)).1 h
theorem aggS_inj {x y : List Int} (h : dgV x = dgV y) : x = y := by
  simp only [Value.agg.injEq] at h
  have h2 : kv .u8 x = kv .u8 y := by simpa using congrArg Array.toList h
  exact (List.map_inj_right (fun a b hab => by simpa using hab)).1 h2
open Classical in
noncomputable def sumElem (v : Value) : Option (DataW Unit × List MemPlace) := if h : ∃ x : List Int, v = dgV x then some (encS h.choose, []) else none
theorem sumElem_mk (x : List Int) : sumElem (dgV x) = some (encS x, []) := by
  have h : ∃ y : List Int, dgV x = dgV y := ⟨x, rfl⟩
  unfold sumElem
  rw [dif_pos h, ← aggS_inj h.choose_spec]
theorem sumElem_inv {v : Value} {x : List Int} {ps : List MemPlace} (h : sumElem v = some (encS x, ps)) : v = dgV x := by
  unfold sumElem at h
  split at h
  · rename_i hx
    simp only [Option.some.injEq, Prod.mk.injEq] at h
    rw [← encS_inj h.1]
    exact hx.choose_spec
  · cases h
theorem law3S : Keyed Tryd.prog 3 := int_keyed Tryd.underlying3
theorem zero43 (w : World) : (zeroValue 43).run Tryd.prog w = .ok (dgV zeroS) w := by kernel_rfl
abbrev qkey (q : Nat) : Lit := .int .i64 q
theorem qkey_wf {q n : Nat} (h : q < n) (hn : n ≤ 64) : (qkey q).wf = true := by
  simp [Lit.wf]
  have e1 : IntKind.i64.min = -9223372036854775808 := by decide
  have e2 : IntKind.i64.max = 9223372036854775807 := by decide
  omega
theorem qkey_of {q n : Nat} (h : q < n) (hn : n ≤ 64) : keyOf Tryd.prog 3 (.int .i64 q) = some (qkey q) := keyOf_int_mk Tryd.underlying3 (qkey_wf h hn)
/-- The map in block M: what was told of the ladders kn. -/
def KnIs (w : World) (M n c : Nat) (m : SpM) (kn : Nat → Option Value) : Prop :=
  ∃ D : DataW Unit, w.ownsMap Tryd.prog 3 sumElem M c D ∧ Tidy D ∧ Maps.size D = cntF kn n ∧ ∀ q, q < n → has D (qkey q) = (kn q).isSome ∧ D.atKey (qkey q) (encS zeroS) = encS (if (kn q).isSome then elR m q m.st.toNat else zeroS)
theorem KnIs.keep {w w' : World} {M n c : Nat} {m : SpM} {kn : Nat → Option Value} (h : KnIs w M n c m kn) (hb : w'.heap[M]? = w.heap[M]?) : KnIs w' M n c m kn := by
  obtain ⟨D, ⟨es, clock, h1, h2⟩, h3⟩ := h
  exact ⟨D, ⟨es, clock, hb.trans h1, h2⟩, h3⟩
theorem KnIs.lt {w : World} {M n c : Nat} {m : SpM} {kn : Nat → Option Value} (h : KnIs w M n c m kn) : M < w.heap.size := by
  obtain ⟨D, h1, _⟩ := h
  exact h1.lt
theorem KnIs.made (w : World) (n : Nat) (m : SpM) : KnIs (w.alloc (.map #[] 0)) w.heap.size n 0 m (fun _ => none) :=
  ⟨.map [], World.ownsMap_made _ _ _ _, by exact ⟨_, rfl, by simp⟩, by rw [cntF_none]; rfl, fun q _ => ⟨rfl, rfl⟩⟩
theorem KnIs.look {w : World} {M n c : Nat} {m : SpM} {kn : Nat → Option Value} {q : Nat} (h : KnIs w M n c m kn) (hq : q < n) (hn : n ≤ 64) : (Instr.lookup 41 (.map (some M)) (.int .i64 q) true).run Tryd.prog w = .ok (.tuple #[dgV (if (kn q).isSome then elR m q m.st.toNat else zeroS), .bool (kn q).isSome]) w := by
  obtain ⟨D, ho, _, _, hF⟩ := h
  obtain ⟨v, ps, hrun, hv⟩ := ho.look_ok law3S Tryd.underlying41 (zero43 w) (sumElem_mk zeroS) (qkey_of hq hn)
  rw [(hF q hq).2] at hv
  rw [hrun, sumElem_inv hv, (hF q hq).1]
theorem KnIs.len {w : World} {M n c : Nat} {m : SpM} {kn : Nat → Option Value} (h : KnIs w M n c m kn) (ty : TypeId) : (Builtin.len_ #[41] ty #[.map (some M)]).run Tryd.prog w = .ok (.int .i64 (cntF kn n)) w := by
  obtain ⟨D, ho, _, hs, _⟩ := h
  rw [ho.len Tryd.underlying41 ty, hs]
theorem KnIs.upd {w : World} {M n c : Nat} {m : SpM} {kn : Nat → Option Value} {q : Nat} (h : KnIs w M n c m kn) (hq : q < n) (hn : n ≤ 64) (hc : c ≤ 1000) :
    ∃ w', (Instr.mapUpdate 41 (.map (some M)) (.int .i64 q) (dgV (elR m q m.st.toNat))).run Tryd.prog w = .ok () w' ∧ KnIs w' M n (c + 1) m (updF kn q (.bool true)) ∧ w.grownBy w' (some M) := by
  obtain ⟨D, ho, hD, hs, hF⟩ := h
  obtain ⟨w', hrun, ho', hg⟩ := ho.update law3S Tryd.underlying41 (by unfold maxLen; omega) (qkey_of hq hn) (sumElem_mk (elR m q m.st.toNat))
  refine ⟨w', hrun, ⟨_, ho', hD.put (by trivial) _, ?_, fun j hj => ?_⟩, hg⟩
  · rw [size_put hD, (hF q hq).1]
    cases hk : kn q with
    | none => rw [cntF_upd hk hq, hs]; rfl
    | some v =>
      rw [hs]
      have h1 : cntF kn n ≤ cntF (updF kn q (.bool true)) n := cntF_mono fun i _ hi => by unfold updF; split; simp; exact hi
      have h2 : cntF (updF kn q (.bool true)) n ≤ cntF kn n := cntF_mono fun i _ hi => by
        unfold updF at hi
        by_cases e : i = q
        · rw [e, hk]; simp
        · rw [if_neg e] at hi; exact hi
      simp
      omega
  · by_cases e : j = q
    · subst e
      have hu : updF kn j (.bool true) j = some (.bool true) := by unfold updF; rw [if_pos rfl]
      rw [has_put_same hD.isMap (by trivial), atKey_put_same hD.isMap (by trivial), hu]
      exact ⟨rfl, rfl⟩
    · have hu : updF kn q (.bool true) j = kn j := by unfold updF; rw [if_neg e]
      have hne : qkey j ≠ qkey q := fun e2 => e (by simp at e2; omega)
      rw [has_put_other hne, atKey_put_other hne, hu]
      exact hF j hj
end Go.Proofs.YtibbinenhmiclaaDoor
