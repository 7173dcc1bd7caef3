/-
  The law's awake (ladder).
  Arguments that came in: an array of bytes by value; a slice of numbers of 64 bits.
  The law LadderCosts, walked.
-/
import Derived.Test.YtahmioiefmheeaaDoorGf16
import Derived.OpenShut
import Derived.SizedLaws
namespace Go.Proofs.YtahmioiefmheeaaDoor
open Go.RowKit

set_option maxRecDepth 100000 in
set_option maxHeartbeats 1000000 in
theorem awake6 (w : World) (hk : KonIs w) : Calls Tryd.prog 34 #[] w fun r w' => r = .returned (.bool true) ∧ Below w.heap.size w w' := by
  have HK := Kp.mk hk
  clear hk
  go_enter Tryd.func34, Tryd.ntmps34
  go_wp2_with fail
  refine (up_one 1 2 3 (fill 16 []) _ (HK.out.keep (more (Below.refl _ _) _)) (by omega) (by omega) rfl (fill_bytes (fun x hx => by simp at hx))).mono ?_
  rintro q w1 ⟨rfl, hb⟩
  obtain ⟨A, hA⟩ : ∃ A, A = w.heap.size := ⟨_, rfl⟩
  have HA := Kp.mk hA
  have H1 : Kp (Blk w1 A (.cells #[.int .i64 1, .int .u32 2, .int .u32 3] 51) ∧ Below A w w1 ∧ A < w1.heap.size) := ⟨by
    have h := (Blk.newAt (w := w) (.cells #[.int .i64 1, .int .u32 2, .int .u32 3] 51) hA).keep hb
    exact ⟨h, by rw [hA]; exact (more (Below.refl _ _) _).trans (hb.mono (by simp)), h.lt⟩⟩
  rw [← hA]
  clear hA hb
  obtain ⟨z, hz⟩ : ∃ z, z = shortL (leafT 1 2 3 0 (fill 16 []) 0) := ⟨_, rfl⟩
  have HZ : Kp (z.length = 16) := ⟨by rw [hz]; exact shortL_len _⟩
  have HQ : Kp (∀ w, (binOp .eql 33 (dgV z) (dgV z)).run Tryd.prog w = .ok (.bool true) w) := ⟨fun w => eql50 (p := z) (by rw [hz]; exact shortL_bytes _) HZ.out w⟩
  rw [← hz]
  have HK9 := Kp.mk hz
  clear hz
  go_wp2_with (refine wpList_store_row rfl 33 (.tmp 2) (.tmp 9) rfl w1.heap.size (kv .u8 z).toArray rfl rfl 33 _ (Blk.new w1 _) (cells50 HZ.out) (size50 HZ.out) (kv_all _ _) ?_)
  obtain ⟨B, hB⟩ : ∃ B, B = w1.heap.size := ⟨_, rfl⟩
  rw [← hB]
  refine wp_world (fun W => Blk W A (.cells #[.int .i64 1, .int .u32 2, .int .u32 3] 51) ∧ Row W B 33 .u8 z ∧ Below A w W) ⟨?_, ?_, ?_⟩ ?_
  · exact (setRow_other _ B A _ (by have := H1.out.2.2; omega)).trans (Blk.old H1.out.1 _)
  · exact Row.setRow (l := fill 16 []) (Blk.newAt _ hB) z
  · exact Below.row (H1.out.2.1.alloc (by have := H1.out.2.2; omega) _) (by have := H1.out.2.2; omega) _
  clear hB H1
  rintro W ⟨q1, q2, q3⟩
  refine wp_region_pred (fun w' => Blk w' A (.cells #[.int .i64 1, .int .u32 2, .int .u32 3] 51) ∧ Row w' B 33 .u8 z ∧ Below A w w') [0, 1, 2, 3, 4, 5, 6, 7, 8, 9, 10, 11, 12, 13, 14, 15, 16] [17]
    (fun i w' v => match i with
      | 0 => v = .int .i64 0
      | 3 => v = dgV z
      | 4 => v = plV 1 2 3
      | 5 => v = dgV (fill 16 [])
      | 6 => v = dgV z
      | 10 => v = .int .i64 (-1)
      | 14 => v = .int .i64 7
      | _ => v = .bool true)
    [[], [(0, some 11)], [(1, some 12)], [(2, some 13)], [(2, some 13)], [(2, some 13)], [(2, some 13), (4, some 15), (5, some 16)], [(2, some 13), (3, some 14), (6, some 17)], [(2, some 13), (7, some 18)], [(6, some 17), (8, some 19)], [(9, some 20)], [(9, some 20), (10, some 21)], [(9, some 20), (11, some 22)], [(10, some 21), (12, some 23)], [(13, some 24)], [(13, some 24), (14, some 25)], [(13, some 24), (15, some 26)]]
    [(0, some 11), (1, some 12), (2, some 13), (3, some 14), (4, some 15), (5, some 16), (6, some 17), (7, some 18), (8, some 19), (9, some 20), (10, some 21), (11, some 22), (12, some 23), (13, some 24), (14, some 25), (15, some 26), (16, some 27)]
    (by kernel_rfl) (by kernel_rfl) (by kernel_rfl) (by kernel_rfl) (by kernel_rfl) (by kernel_rfl) (by decide) (by decide) (fun w1 w2 h hb => ⟨h.1.keep hb, h.2.1.keep hb, h.2.2.trans (hb.mono (Nat.le_of_lt h.1.lt))⟩) ?_ ⟨q1.draw, q2.drew, q3.drew⟩ ?_ ?_
  · intro i w1 w2 v h hb
    match i, h with
    | 0, h => exact h
    | 1, h => exact h
    | 2, h => exact h
    | 3, h => exact h
    | 4, h => exact h
    | 5, h => exact h
    | 6, h => exact h
    | 7, h => exact h
    | 8, h => exact h
    | 9, h => exact h
    | 10, h => exact h
    | 11, h => exact h
    | 12, h => exact h
    | 13, h => exact h
    | 14, h => exact h
    | 15, h => exact h
    | 16, h => exact h
    | _ + 17, h => exact h
  · refine ⟨fun γ wx hS h => ?_, fun γ wx hS h => ?_, fun γ wx hS h => ?_, fun γ wx hS h => ?_, fun γ wx hS h => ?_, fun γ wx hS h => ?_, fun γ wx hS h => ?_, fun γ wx hS h => ?_, fun γ wx hS h => ?_, fun γ wx hS h => ?_, fun γ wx hS h => ?_, fun γ wx hS h => ?_, fun γ wx hS h => ?_, fun γ wx hS h => ?_, fun γ wx hS h => ?_, fun γ wx hS h => ?_, fun γ wx hS h => ?_, trivial⟩
    · refine ⟨_, rfl, Or.inl ⟨rfl, predRun_value (v := .int .i64 0) (by simp only [putE]; first | rfl | (go_simp; done) | (go_simp; with_reducible rfl) | (go_simp; rfl)) rfl⟩⟩
    · have h0 := h
      have e0 : γ 0 = .int .i64 0 := h0
      refine ⟨_, rfl, Or.inl ⟨(by simp only [putE, e0]; rfl), predRun_value (v := .bool true) (by simp only [putE, e0]; first | rfl | (go_simp; done) | (go_simp; with_reducible rfl) | (go_simp; rfl)) rfl⟩⟩
    · have h1 := h
      have e1 : γ 1 = .bool true := h1
      refine ⟨_, rfl, Or.inl ⟨(by simp only [putE, e1]; rfl), predRun_value (v := .bool true) (by simp only [putE, e1]; first | rfl | (go_simp; done) | (go_simp; with_reducible rfl) | (go_simp; rfl)) rfl⟩⟩
    · have h2 := h
      have e2 : γ 2 = .bool true := h2
      refine ⟨_, rfl, Or.inl ⟨(by simp only [putE, e2]; rfl), predRun_value (exec_load_blk 33 (.tmp 2) rfl B rfl 33 _ (0, 0) _ hS.2.1 Tryd.underlying33 rfl (cells50 HZ.out)) rfl⟩⟩
    · have h2 := h
      have e2 : γ 2 = .bool true := h2
      refine ⟨_, rfl, Or.inl ⟨(by simp only [putE, e2]; rfl), predRun_value (exec_load_blk 51 (.tmp 1) rfl A rfl 51 _ (0, 0) _ hS.1 Tryd.underlying51 rfl (cells51 1 2 3)) rfl⟩⟩
    · have h2 := h
      have e2 : γ 2 = .bool true := h2
      refine ⟨_, rfl, Or.inl ⟨(by simp only [putE, e2]; rfl), predRun_value (v := dgV (fill 16 [])) (by simp only [putE, e2]; first | rfl | (go_simp; done) | (go_simp; with_reducible rfl) | (go_simp; rfl)) rfl⟩⟩
    · obtain ⟨h2, h4, h5⟩ := h
      have e2 : γ 2 = .bool true := h2
      have e4 : γ 4 = plV 1 2 3 := h4
      have e5 : γ 5 = dgV (fill 16 []) := h5
      refine ⟨_, rfl, Or.inl ⟨(by simp only [putE, e2, e4, e5]; rfl), predRun_call (f := 35) (args := #[plV 1 2 3, .int .i64 0, dgV (fill 16 []), .int .i64 0]) (by simp only [putE, e2, e4, e5]; go_simp) ?_⟩⟩
      exact (leaf_any 1 2 3 0 (fill 16 []) 0 wx (HK.out.keep (by rw [← HA.out]; exact hS.2.2)) (by omega) (by omega) rfl (fill_bytes (fun x hx => by simp at hx))).mono fun e w2 ⟨h1, h2⟩ => ⟨_, h1, by show dgV _ = dgV z; rw [HK9.out], h2⟩
    · obtain ⟨h2, h3, h6⟩ := h
      have e2 : γ 2 = .bool true := h2
      have e3 : γ 3 = dgV z := h3
      have e6 : γ 6 = dgV z := h6
      refine ⟨_, rfl, Or.inl ⟨(by simp only [putE, e2, e3, e6]; rfl), predRun_value (v := .bool true) (by simp only [putE, e2, e3, e6]; have hq := HQ.out; have hg := eqg50; first | rfl | (go_simp; done) | (go_simp; with_reducible rfl) | (go_simp; rfl)) rfl⟩⟩
    · obtain ⟨h2, h7⟩ := h
      have e2 : γ 2 = .bool true := h2
      have e7 : γ 7 = .bool true := h7
      refine ⟨_, rfl, Or.inl ⟨(by simp only [putE, e2, e7]; rfl), predRun_value (v := .bool true) (by simp only [putE, e2, e7]; first | rfl | (go_simp; done) | (go_simp; with_reducible rfl) | (go_simp; rfl)) rfl⟩⟩
    · obtain ⟨h6, h8⟩ := h
      have e6 : γ 6 = dgV z := h6
      have e8 : γ 8 = .bool true := h8
      refine ⟨_, rfl, Or.inl ⟨(by simp only [putE, e6, e8]; rfl), predRun_value (v := .bool true) (by simp only [putE, e6, e8]; first | rfl | (go_simp; done) | (go_simp; with_reducible rfl) | (go_simp; rfl)) rfl⟩⟩
    · have h9 := h
      have e9 : γ 9 = .bool true := h9
      refine ⟨_, rfl, Or.inl ⟨(by simp only [putE, e9]; rfl), predRun_call (f := 40) (args := #[.int .i64 3]) (by simp only [putE, e9]; go_simp) ?_⟩⟩
      exact (levels_any 3 wx).mono fun e w2 ⟨h1, h2⟩ => ⟨_, h1, rfl, h2 ▸ Below.refl _ _⟩
    · obtain ⟨h9, h10⟩ := h
      have e9 : γ 9 = .bool true := h9
      have e10 : γ 10 = .int .i64 (-1) := h10
      refine ⟨_, rfl, Or.inl ⟨(by simp only [putE, e9, e10]; rfl), predRun_value (v := .bool true) (by simp only [putE, e9, e10]; first | rfl | (go_simp; done) | (go_simp; with_reducible rfl) | (go_simp; rfl)) rfl⟩⟩
    · obtain ⟨h9, h11⟩ := h
      have e9 : γ 9 = .bool true := h9
      have e11 : γ 11 = .bool true := h11
      refine ⟨_, rfl, Or.inl ⟨(by simp only [putE, e9, e11]; rfl), predRun_value (v := .bool true) (by simp only [putE, e9, e11]; first | rfl | (go_simp; done) | (go_simp; with_reducible rfl) | (go_simp; rfl)) rfl⟩⟩
    · obtain ⟨h10, h12⟩ := h
      have e10 : γ 10 = .int .i64 (-1) := h10
      have e12 : γ 12 = .bool true := h12
      refine ⟨_, rfl, Or.inl ⟨(by simp only [putE, e10, e12]; rfl), predRun_value (v := .bool true) (by simp only [putE, e10, e12]; first | rfl | (go_simp; done) | (go_simp; with_reducible rfl) | (go_simp; rfl)) rfl⟩⟩
    · have h13 := h
      have e13 : γ 13 = .bool true := h13
      refine ⟨_, rfl, Or.inl ⟨(by simp only [putE, e13]; rfl), predRun_call (f := 54) (args := #[.int .i64 4]) (by simp only [putE, e13]; go_simp) ?_⟩⟩
      exact (upCost_any 4 wx).mono fun e w2 ⟨h1, h2⟩ => ⟨_, h1, rfl, h2 ▸ Below.refl _ _⟩
    · obtain ⟨h13, h14⟩ := h
      have e13 : γ 13 = .bool true := h13
      have e14 : γ 14 = .int .i64 7 := h14
      refine ⟨_, rfl, Or.inl ⟨(by simp only [putE, e13, e14]; rfl), predRun_value (v := .bool true) (by simp only [putE, e13, e14]; first | rfl | (go_simp; done) | (go_simp; with_reducible rfl) | (go_simp; rfl)) rfl⟩⟩
    · obtain ⟨h13, h15⟩ := h
      have e13 : γ 13 = .bool true := h13
      have e15 : γ 15 = .bool true := h15
      refine ⟨_, rfl, Or.inl ⟨(by simp only [putE, e13, e15]; rfl), predRun_value (v := .bool true) (by simp only [putE, e13, e15]; first | rfl | (go_simp; done) | (go_simp; with_reducible rfl) | (go_simp; rfl)) rfl⟩⟩
  · intro γ w9 hS h
    have e16 : γ 16 = .bool true := h.2.2.2.2.2.2.2.2.2.2.2.2.2.2.2.2
    simp only [putE, Act.put, List.setIfInBounds_toArray, List.set_cons_zero, List.set_cons_succ]
    rw [e16]
    have HB9 := Kp.mk hS.2.2
    clear h hS e16
    refine wpOps_step rfl rfl ?_
    refine wp_assign_end rfl rfl ?_
    refine wpOps_done ?_
    go_wp2_with fail
    go_ret
    exact ⟨rfl, by rw [← HA.out]; exact HB9.out⟩
end Go.Proofs.YtahmioiefmheeaaDoor

namespace Go.Proofs.YtahmioiefmheeaaDoor
open Go.ChangeShapes Go.WideShapes Go.ChangeAt Go.RowKit Go.Deep

theorem okWide_arr {P : Program} {w : World} {r : Reach} {base : Nat} {t e : TypeId} {n : Nat} {v : Value} (ht : P.underlying t = some (.array n e)) (h : Value.okWide P w r base t v) : ∃ cs, v = .agg cs ∧ cs.size = P.cellsOf t := by
  simp only [Value.okWide, ht] at h
  obtain ⟨cs, h1, h2, _⟩ := h
  exact ⟨cs, h1, h2⟩
set_option maxRecDepth 100000 in
/-- An array of bytes that came in by value. -/
theorem open_bytes {H : Type} {enc : TypeId × Value → H} {W : World} {r : Reach} {base b0 : Nat} {spare held : Bool} {t : TypeId} {n : Nat} {v : Value} {d : DataW H} {p : List MemPlace}
    (ht : Tryd.prog.underlying t = some (.array n 5)) (hC : Tryd.prog.cellsOf t = n) (hv : Value.okWide Tryd.prog W r b0 t v) (h : DataW.Trod enc Tryd.prog W base (fun _ => spare) held t v d p) :
    ∃ l : List Int, v = .agg (kv .u8 l).toArray ∧ l.length = n ∧ Bytes l := by
  have c5 : Tryd.prog.cellsOf 5 = 1 := by kernel_rfl
  obtain ⟨cs, rfl, hsz⟩ := okWide_arr ht hv
  obtain ⟨fuel, hf⟩ := h
  obtain ⟨xs, m, rfl, hx, hlen, hn, hel⟩ := DataW.trod_array ht hf
  have hcl : cs.size = n := hsz.trans hC
  have each : ∀ i, i < n → ∃ z : Int, cs.toList[i]? = some (.int .u8 z) ∧ 0 ≤ z ∧ z ≤ 255 := fun i hi => by
    have he := hel i hi
    rw [c5, Nat.mul_one] at he
    rw [List.getElem?_eq_getElem (by omega)] at he
    obtain ⟨k, e1, _, wk⟩ := DataW.trod_int Tryd.underlying5 he
    have h1 : IntKind.u8.min = 0 := rfl
    have h2 : IntKind.u8.max = 255 := rfl
    simp [Lit.wf, h1, h2] at wk
    refine ⟨k, ?_, wk⟩
    have h4 := congrArg (fun l : List Value => l[0]?) e1
    simp only [List.getElem?_take, List.getElem?_drop, Nat.lt_one_iff, if_true, Nat.add_zero] at h4
    simpa [Value.cells] using h4
  obtain ⟨f, hf'⟩ : ∃ f : Nat → Int, ∀ i, i < n → cs.toList[i]? = some (.int .u8 (f i)) ∧ 0 ≤ f i ∧ f i ≤ 255 := by
    refine ⟨fun i => if h : i < n then Classical.choose (each i h) else 0, fun i hi => ?_⟩
    simp only [hi, dif_pos]
    exact Classical.choose_spec (each i hi)
  refine ⟨(List.range n).map f, ?_, by simp, fun z hz => ?_⟩
  · congr 1
    apply Array.toList_inj.1
    apply List.ext_getElem?
    intro i
    by_cases hi : i < n
    · rw [(hf' i hi).1]
      simp [List.getElem?_range hi]
    · rw [List.getElem?_eq_none (by simp; omega), List.getElem?_eq_none (by simp; omega)]
  · obtain ⟨i, hi, rfl⟩ := List.mem_map.1 hz
    exact (hf' i (List.mem_range.1 hi)).2
/-- The slice's cells are the numbers ns, each of 64 bits. -/
def HoldsQ (w : World) (a : Option Addr) (ns : List Int) : Prop :=
  (∀ x ∈ ns, 0 ≤ x ∧ x < 18446744073709551616) ∧ ∀ i, i < ns.length → ∃ b off, a = some ⟨b, off, none⟩ ∧ b < w.heap.size ∧ w.cell? ⟨b, off + i, none⟩ = some (.int .u64 (ns.getD i 0))
theorem HoldsQ.keep {w w' : World} {a : Option Addr} {ns : List Int} (h : HoldsQ w a ns) (hb : Below w.heap.size w w') : HoldsQ w' a ns := by
  refine ⟨h.1, fun i hi => ?_⟩
  obtain ⟨b, off, e1, e2, e3⟩ := h.2 i hi
  exact ⟨b, off, e1, Nat.lt_of_lt_of_le e2 hb.size, (hb.cell (p := ⟨b, off + i, none⟩) e2).trans e3⟩
/-- A slice of numbers that came in. -/
theorem row_nums {H : Type} {enc : TypeId × Value → H} {W : World} {a : Option Addr} {len cap : Nat} {d : DataW H} {p : List MemPlace}
    (k : DataW.Trod enc Tryd.prog W 0 (fun _ => true) true 38 (.slice a len cap) d p) : ∃ ns, ns.length = len ∧ HoldsQ W a ns := by
  obtain ⟨fuel, hf⟩ := k
  rcases open_slice1 Tryd.underlying38 (by kernel_rfl) hf with ⟨hcs, _⟩ | ⟨x, l, c, m, n, V, D, Pl, hcs, hb, hl, hm, hmm, hx, hi⟩
  · simp [Value.cells] at hcs
    obtain ⟨rfl, rfl, rfl⟩ := hcs
    exact ⟨[], rfl, (fun x h => by cases h), fun i hi => by simp at hi⟩
  · simp [Value.cells] at hcs
    obtain ⟨rfl, rfl, rfl⟩ := hcs
    have hmc : m = cap := by simpa using hmm
    have each : ∀ i, i < len → ∃ z : Int, W.cell? (x.add i) = some (.int .u64 z) ∧ 0 ≤ z ∧ z < 18446744073709551616 := fun i him => by
      obtain ⟨hc, ht⟩ := hi i (by omega)
      obtain ⟨u, e0, _, wu⟩ := DataW.trod_int Tryd.underlying130 ht
      simp only [List.cons.injEq, and_true] at e0
      rw [e0] at hc
      have h1 : IntKind.u64.min = 0 := rfl
      have h2 : IntKind.u64.max = 18446744073709551615 := rfl
      simp [Lit.wf, h1, h2] at wu
      exact ⟨u, hc, by omega⟩
    obtain ⟨f, hf'⟩ : ∃ f : Nat → Int, ∀ i, i < len → W.cell? (x.add i) = some (.int .u64 (f i)) ∧ 0 ≤ f i ∧ f i < 18446744073709551616 := by
      refine ⟨fun i => if h : i < len then Classical.choose (each i h) else 0, fun i hi => ?_⟩
      simp only [hi, dif_pos]
      exact Classical.choose_spec (each i hi)
    refine ⟨(List.range len).map f, by simp, fun z hz => ?_, fun i hi' => ?_⟩
    · obtain ⟨i, hi, rfl⟩ := List.mem_map.1 hz
      exact (hf' i (List.mem_range.1 hi)).2
    · simp at hi'
      have h1 := (hf' i hi').1
      have hsp : x.spot = none ∧ x.block < W.heap.size := by
        have h1 := (hf' 0 (by omega)).1
        have h2 : x.add 0 = x := by simp [Addr.add]
        rw [h2] at h1
        exact ⟨World.cell?_spot h1, World.block_lt_of_cell? W _ h1⟩
      obtain ⟨b, off, spot⟩ := x
      simp only at hsp
      obtain ⟨rfl, hlt⟩ := hsp
      have e : (⟨b, off, none⟩ : Addr).add i = ⟨b, off + i, none⟩ := by unfold Addr.add; split <;> simp_all
      rw [e] at h1
      refine ⟨b, off, rfl, hlt, ?_⟩
      rw [h1, List.getD_eq_getElem?_getD, List.getElem?_map, List.getElem?_range hi']
      rfl
set_option maxRecDepth 100000 in
/-- How many there can be. -/
theorem nums_reach {H : Type} {enc : TypeId × Value → H} {W : World} {a : Option Addr} {len cap : Nat} {d : DataW H} {p : List MemPlace}
    (k : DataW.Trod enc Tryd.prog W 0 (fun _ => true) true 38 (.slice a len cap) d p) {ts : List TypeId} {ds : List (DataW H)} {j : Nat}
    (hs : (DataW.weightsEach Tryd.prog ts ds).all (· ≤ reachBytes) = true) (ht : ts[j]? = some 38) (hd : ds[j]? = some d) : 8 * len ≤ 140737488351232 := by
  have hb : Tryd.prog.bytesOf 130 = 8 := by kernel_rfl
  obtain ⟨fuel, hf⟩ := k
  rcases open_slice1 Tryd.underlying38 (by kernel_rfl) hf with ⟨hcs, _⟩ | ⟨x, l, c, m, n, V, D, Pl, hcs, hb, hl, hm, hmm, hx, hi⟩
  · simp [Value.cells] at hcs
    obtain ⟨rfl, rfl, rfl⟩ := hcs
    omega
  · simp [Value.cells] at hcs
    obtain ⟨rfl, rfl, rfl⟩ := hcs
    simp only [Prod.mk.injEq] at hx
    rw [hx.1] at hd
    have := sized_slice hs ht hd Tryd.underlying38
    rw [‹Tryd.prog.bytesOf 130 = 8›] at this
    simp only [List.length_map, List.length_range, reachBytes] at this
    omega
end Go.Proofs.YtahmioiefmheeaaDoor

namespace Go.Proofs.YtahmioiefmheeaaDoor
open Go.RowKit

theorem u32_wf {x : Int} (h : (Lit.int .u32 x).wf = true) : 0 ≤ x ∧ x < 4294967296 := by
  have h1 : IntKind.u32.min = 0 := rfl
  have h2 : IntKind.u32.max = 4294967295 := rfl
  have := h
  simp [Lit.wf, h1, h2] at this
  omega
theorem nodeT_size (d e s r : Int) (el : List Int) (hel : el.length = 16) (k : Nat) : ∀ p, ∀ t ∈ nodeT d e s r el k p, t.length = 28 ∨ t.length = 43 := by
  induction k with
  | zero => intro p t ht; simp [nodeT] at ht; subst ht; exact Or.inl (by simp [leafT, placeL_len, hel])
  | succ k ih =>
    intro p t ht
    simp only [nodeT, List.mem_append, List.mem_singleton] at ht
    rcases ht with (h | h) | h
    · exact ih _ t h
    · exact ih _ t h
    · subst h; exact Or.inr (by simp [joinT, placeL_len, nodeS_len])
theorem lev_four {x : Int} (h : 0 ≤ lev x) : x = 1 ∨ x = 2 ∨ x = 4 ∨ x = 8 := by
  unfold lev at h
  split at h
  · omega
  split at h
  · omega
  split at h
  · omega
  split at h <;> omega
theorem upC_lev {x : Int} {k : Nat} (h : lev x = k) : upC x = ((2 ^ (k + 1) - 1 : Nat) : Int) := by
  rcases lev_four (x := x) (by omega) with rfl | rfl | rfl | rfl
  · obtain rfl : k = 0 := by have : lev 1 = 0 := rfl; omega
    rfl
  · obtain rfl : k = 1 := by have : lev 2 = 1 := rfl; omega
    rfl
  · obtain rfl : k = 2 := by have : lev 4 = 2 := rfl; omega
    rfl
  · obtain rfl : k = 3 := by have : lev 8 = 3 := rfl; omega
    rfl
set_option maxRecDepth 100000 in
set_option maxHeartbeats 4000000 in
theorem ladderCosts_walk (x0 x1_0 x1_1 x1_2 : Int) (x2 : List Int) (w : World) (_w0 : (Lit.int .i64 x0).wf = true) (_w1_0 : (Lit.int .i64 x1_0).wf = true) (w1_1 : (Lit.int .u32 x1_1).wf = true) (w1_2 : (Lit.int .u32 x1_2).wf = true) (l2 : x2.length = 16) (b2 : Bytes x2) (hk : KonIs w) :
    Calls Tryd.prog 12 #[.int .i64 x0, plV x1_0 x1_1 x1_2, dgV x2] w fun e w' => e = .returned (.bool true) ∧ Below w.heap.size w w' := by
  have HE := Kp.mk (u32_wf w1_1)
  have HS := Kp.mk (u32_wf w1_2)
  have HX := Kp.mk l2
  have HXB := Kp.mk b2
  have HK := Kp.mk hk
  clear _w0 _w1_0 w1_1 w1_2 l2 b2 hk
  go_enter Tryd.func12, Tryd.ntmps12
  go_wp2_with fail
  obtain ⟨A, hA⟩ : ∃ A, A = w.heap.size := ⟨_, rfl⟩
  have HA := Kp.mk hA
  refine calls_world (fun W => Blk W A (.cells #[.int .i64 x1_0, .int .u32 x1_1, .int .u32 x1_2] 48) ∧ Row W (A + 1) 32 .u8 x2 ∧ Below A w W) ⟨Blk.old (Blk.newAt _ hA) _, Blk.newAt _ (by simp [hA]), by rw [hA]; exact more (more (Below.refl _ _) _) _⟩ ?_
  rw [← hA]
  clear hA
  rintro W ⟨g1, g2, g3⟩
  have G1 := Kp.mk g1
  have G2 := Kp.mk g2
  have G3 := Kp.mk g3
  clear g1 g2 g3
  refine (upCost_any x0 W).mono ?_
  rintro r w1 ⟨rfl, e⟩
  rw [e]
  clear e w1
  go_wp2_with fail
  refine (rupCost_any x0 W).mono ?_
  rintro r w1 ⟨rfl, e⟩
  rw [e]
  clear e w1
  obtain ⟨c, hc⟩ : ∃ c, c = upC x0 := ⟨_, rfl⟩
  rw [← hc]
  clear hc
  have t1 : (c != c) = false := by simp
  go_wp2_with fail
  clear t1
  refine (riseCost_any x0 W).mono ?_
  rintro r w1 ⟨rfl, e⟩
  rw [e]
  clear e w1
  go_wp2_with fail
  refine (rriseCost_any x0 W).mono ?_
  rintro r w1 ⟨rfl, e⟩
  rw [e]
  clear e w1
  obtain ⟨c, hc⟩ : ∃ c, c = max (lev x0) 0 := ⟨_, rfl⟩
  rw [← hc]
  clear hc
  have t1 : (c != c) = false := by simp
  go_wp2_with fail
  clear t1
  refine (rlevels_any x0 W).mono ?_
  rintro r w1 ⟨rfl, e⟩
  rw [e]
  clear e w1
  by_cases h0 : lev x0 < 0
  · obtain ⟨c, hc⟩ : ∃ c, c = lev x0 := ⟨_, rfl⟩
    rw [← hc] at h0 ⊢
    clear hc
    go_wp2_with fail
    refine (awake6 W (HK.out.keep (by rw [← HA.out]; exact G3.out))).mono ?_
    rintro r w1 ⟨rfl, hb⟩
    go_wp2_with fail
    go_ret
    exact ⟨rfl, by rw [← HA.out]; exact G3.out.trans (hb.mono (by have := G3.out.size; rw [HA.out]; exact this))⟩
  · obtain ⟨k, hk⟩ : ∃ k : Nat, lev x0 = k := ⟨(lev x0).toNat, by omega⟩
    have hk3 : k ≤ 3 := by have := lev_range x0; omega
    have HUC := Kp.mk (upC_lev hk)
    have HK3 := Kp.mk hk3
    have HK4 : Kp (((0 : Int) + 1) * 2 ^ k ≤ 8) := ⟨by rcases (show k = 0 ∨ k = 1 ∨ k = 2 ∨ k = 3 by omega) with rfl | rfl | rfl | rfl <;> decide⟩
    have HL := Kp.mk hk
    rw [hk]
    clear hk h0
    obtain ⟨s, hs⟩ : ∃ s, s = nodeS x1_0 x1_1 x1_2 1 x2 k 0 := ⟨_, rfl⟩
    obtain ⟨ts, hts⟩ : ∃ ts, ts = nodeT x1_0 x1_1 x1_2 1 x2 k 0 := ⟨_, rfl⟩
    have HSl : Kp (s.length = 16) := ⟨by rw [hs]; exact nodeS_len _ _ _ _ _ _ _⟩
    have HT : Kp (ts.length = 2 ^ (k + 1) - 1) := ⟨by rw [hts]; exact nodeT_len _ _ _ _ _ _ _⟩
    have HF : Kp (∀ t ∈ ts, 0 < t.length ∧ t.getD 0 0 ≠ 0) := ⟨by rw [hts]; exact nodeT_first _ _ _ _ _ _ _⟩
    have HW : Kp (∀ t ∈ ts, t.length = 28 ∨ t.length = 43) := ⟨by rw [hts]; exact nodeT_size _ _ _ _ _ HX.out _ _⟩
    have HC := Kp.mk (cells49 HSl.out)
    have HZ := Kp.mk (size50 HSl.out)
    have HSe := Kp.mk hs
    have HTe := Kp.mk hts
    clear hs hts
    go_wp2_with fail
    refine wp_region_predQ (fun w' => Blk w' A (.cells #[.int .i64 x1_0, .int .u32 x1_1, .int .u32 x1_2] 48) ∧ Row w' (A + 1) 32 .u8 x2 ∧ Below A w w') [0, 1, 2, 3, 4, 5, 6, 7, 8] [7] [9, 10]
      (fun ι w' v => match ι with
        | 0 => v = plV x1_0 x1_1 x1_2
        | 1 => v = dgV x2
        | 2 => v = .int .i64 x0
        | 3 => v = .int .i64 k
        | 6 => v = dgV s
        | 4 => ∃ t, v = .tuple #[dgV s, t] ∧ HoldsP w' t ts
        | 5 => ∃ t, v = .tuple #[dgV s, t] ∧ HoldsP w' t ts
        | 7 => HoldsP w' v ts
        | 8 => ∃ g, v = .pointer (some ⟨g, 0, none⟩) ∧ A ≤ g ∧ Row w' g 32 .u8 (fill 16 [])
        | _ => v = .bool true)
      [[], [], [], [(2, some 31)], [(0, some 29), (1, some 30), (3, some 32)], [(4, some 33)], [(5, some 28)], [(5, some 28)], []]
      [[(5, some 28)]]
      [(0, some 29), (1, some 30), (2, some 31), (3, some 32), (4, some 33), (5, some 28), (6, some 34), (7, some 35), (8, some 7)]
      (by kernel_rfl) (by kernel_rfl) (by kernel_rfl) (by kernel_rfl) (by kernel_rfl) (by kernel_rfl) (by kernel_rfl) (by decide) (by decide) (fun w1 w2 h hb => ⟨h.1.keep hb, h.2.1.keep hb, h.2.2.trans (hb.mono (Nat.le_of_lt h.1.lt))⟩) (fun c a w d v h => by cases d <;> exact h) ?_ ⟨G1.out.draw, G2.out.drew, G3.out.drew⟩ ?_ ?_ ?_
    · intro ι w1 w2 v h hb
      by_cases h4 : ι = 4
      · subst h4
        exact (show ∃ t, _ ∧ HoldsP w2 t ts from (by obtain ⟨t, e, ht⟩ := h; exact ⟨t, e, ht.keep hb⟩))
      by_cases h5 : ι = 5
      · subst h5
        exact (show ∃ t, _ ∧ HoldsP w2 t ts from (by obtain ⟨t, e, ht⟩ := h; exact ⟨t, e, ht.keep hb⟩))
      by_cases h7 : ι = 7
      · subst h7
        exact HoldsP.keep h hb
      by_cases h8 : ι = 8
      · subst h8
        exact (by obtain ⟨g, e, h1, hg⟩ := h; exact ⟨g, e, h1, hg.keep hb⟩)
      match ι, h4, h5, h7, h8, h with
      | 0, _, _, _, _, h => exact h
      | 1, _, _, _, _, h => exact h
      | 2, _, _, _, _, h => exact h
      | 3, _, _, _, _, h => exact h
      | 4, g, _, _, _, h => exact absurd rfl g
      | 5, _, g, _, _, h => exact absurd rfl g
      | 6, _, _, _, _, h => exact h
      | 7, _, _, g, _, h => exact absurd rfl g
      | 8, _, _, _, g, h => exact absurd rfl g
      | _ + 9, _, _, _, _, h => exact h
    · refine ⟨fun γ wx hS h => ?_, fun γ wx hS h => ?_, fun γ wx hS h => ?_, fun γ wx hS h => ?_, fun γ wx hS h => ?_, fun γ wx hS h => ?_, fun γ wx hS h => ?_, fun γ wx hS h => ?_, fun γ wx hS h => ?_, trivial⟩
      · refine ⟨_, rfl, Or.inl ⟨rfl, predRun_value (exec_load_blk 48 (.tmp 4) rfl (A) rfl 48 _ (0, 0) _ hS.1 Tryd.underlying48 rfl (cells48 x1_0 x1_1 x1_2)) rfl⟩⟩
      · refine ⟨_, rfl, Or.inl ⟨rfl, predRun_value (exec_load_blk 32 (.tmp 5) rfl (A + 1) rfl 32 _ (0, 0) _ hS.2.1 Tryd.underlying32 rfl (cells49 HX.out)) rfl⟩⟩
      · refine ⟨_, rfl, Or.inl ⟨rfl, predRun_value (v := .int .i64 x0) (by simp only [putE]; first | rfl | (go_simp; done) | (go_simp; with_reducible rfl) | (go_simp; rfl)) rfl⟩⟩
      · have h2 := h
        have e2 : γ 2 = .int .i64 x0 := h2
        refine ⟨_, rfl, Or.inl ⟨rfl, predRun_call (f := 41) (args := #[.int .i64 x0]) (by simp only [putE, e2]; go_simp) ?_⟩⟩
        exact (rlevels_any x0 wx).mono fun e w2 ⟨h1, h2⟩ => ⟨_, h1, by show Value.int .i64 (lev x0) = _; rw [HL.out], h2 ▸ Below.refl _ _⟩
      · obtain ⟨h0, h1, h3⟩ := h
        have e0 : γ 0 = plV x1_0 x1_1 x1_2 := h0
        have e1 : γ 1 = dgV x2 := h1
        have e3 : γ 3 = .int .i64 k := h3
        refine ⟨_, rfl, Or.inl ⟨rfl, predRun_call (f := 52) (args := #[plV x1_0 x1_1 x1_2, .int .i64 1, dgV x2, .int .i64 k, .int .i64 0]) (by simp only [putE, e0, e1, e3]; go_simp) ?_⟩⟩
        exact (node_any x1_0 x1_1 x1_2 1 x2 HE.out HS.out HX.out HXB.out k 0 wx HK3.out (by omega) HK4.out).mono fun e w2 ⟨v', h1, h2, h3⟩ => ⟨_, h1, ⟨v', by rw [HSe.out], by rw [HTe.out]; exact h2⟩, h3⟩
      · have h4 := h
        have p4 : ∃ t, (γ 4) = .tuple #[dgV s, t] ∧ HoldsP wx t ts := h4
        obtain ⟨t, e4, ht⟩ := p4
        refine ⟨_, rfl, Or.inl ⟨rfl, predRun_value (v := .tuple #[dgV s, t]) (by simp only [putE, e4]; first | rfl | (go_simp; done) | (go_simp; rfl)) ⟨t, rfl, ht⟩⟩⟩
      · have h5 := h
        have p5 : ∃ t, (γ 5) = .tuple #[dgV s, t] ∧ HoldsP wx t ts := h5
        obtain ⟨t, e5, ht⟩ := p5
        refine ⟨_, rfl, Or.inl ⟨rfl, predRun_value (v := dgV s) (by simp only [putE, e5]; first | rfl | (go_simp; done) | (go_simp; rfl)) rfl⟩⟩
      · have h5 := h
        have p5 : ∃ t, (γ 5) = .tuple #[dgV s, t] ∧ HoldsP wx t ts := h5
        obtain ⟨t, e5, ht⟩ := p5
        refine ⟨_, rfl, Or.inl ⟨rfl, predRun_value (v := t) (by simp only [putE, e5]; first | rfl | (go_simp; done) | (go_simp; rfl)) ht⟩⟩
      · refine ⟨_, rfl, Or.inl ⟨rfl, predRun_new (w' := wx.alloc z49) (v := .pointer (some ⟨wx.heap.size, 0, none⟩)) (by simp only [putE]; first | rfl | (go_simp; done) | (go_simp; rfl)) (more (Below.refl _ _) _) ⟨_, rfl, Nat.le_of_lt hS.1.lt, Blk.new _ _⟩⟩⟩
    · refine ⟨fun γ wx hS h => ?_, trivial⟩
      · have h5 := h
        have p5 : ∃ t, (γ 5) = .tuple #[dgV s, t] ∧ HoldsP wx t ts := h5
        obtain ⟨t, e5, ht⟩ := p5
        refine ⟨_, t, rfl, Or.inl ⟨rfl, fun wz => by simp only [putE, e5]; first | rfl | (go_simp; done) | (go_simp; rfl)⟩, ht⟩
    · intro γ w9 hS h
      have p7 : HoldsP w9 (γ 7) ts := h.2.2.2.2.2.2.2.1
      have e6 : γ 6 = dgV s := h.2.2.2.2.2.2.1
      obtain ⟨g, e8, hAg, hg⟩ : ∃ g, γ 8 = .pointer (some ⟨g, 0, none⟩) ∧ A ≤ g ∧ Row w9 g 32 .u8 (fill 16 []) := h.2.2.2.2.2.2.2.2
      obtain ⟨a, n, cp, e7, hn⟩ := p7.slice
      simp only [putE, Act.put, List.setIfInBounds_toArray, List.set_cons_zero, List.set_cons_succ]
      rw [e6, e7, e8]
      rw [e7] at p7
      have F3 := Kp.mk hS.2.2
      have HGA : Kp (Row w9 g 32 .u8 (fill 16 [])) := ⟨hg⟩
      have HO : Kp (HoldsP (w9.setRow g (kv .u8 s).toArray) (.slice a n cp) ts) := ⟨p7.other _ hg HF.out⟩
      have HBz : Kp (Below A w (w9.setRow g (kv .u8 s).toArray)) := ⟨Below.row hS.2.2 hAg _⟩
      clear h hS e6 e7 e8 p7 hg G1 G2 G3
      refine wpOps_step rfl rfl ?_
      refine wp_store_row 32 (.tmp 7) (.tmp 34) rfl g (kv .u8 s).toArray rfl rfl 32 _ HGA.out HC.out HZ.out (kv_all _ _) ?_
      refine wpOps_step rfl rfl ?_
      refine wp_assign_end rfl rfl ?_
      refine wpOps_done ?_
      obtain ⟨W, hW⟩ : ∃ W, W = w9.setRow g (kv .u8 s).toArray := ⟨_, rfl⟩
      rw [← hW] at HO HBz ⊢
      have hn15 : n ≤ 15 := by
        rw [hn, HT.out]
        rcases (show k = 0 ∨ k = 1 ∨ k = 2 ∨ k = 3 by omega) with rfl | rfl | rfl | rfl <;> decide
      have HN := Kp.mk hn
      clear hW hn F3 HGA hAg
      go_wp2_with fail
      go_loopw [9, 38] (fun t c wr => ∃ i : Nat, i ≤ n ∧ t = .int .i64 i ∧ c = .int .i64 i ∧ Kp (HoldsP wr (.slice a n cp) ts) ∧ Kp (Below A w wr)) (fun _ c _ => n - (intOf c).toNat)
      case atStart => exact ⟨0, by omega, rfl, rfl, HO, HBz⟩
      case round =>
        obtain ⟨i, hi, rfl, rfl, G1, G2⟩ := hrel
        clear HO HBz
        by_cases hlt : i < n
        · obtain ⟨b, off, a1, n1, c1, rfl, hc, hb1⟩ : ∃ b off a1 n1 c1, a = some ⟨b, off, none⟩ ∧ wr.cell? ⟨b, off + i, none⟩ = some (.slice a1 n1 c1) ∧ blkI n1 = 1 ∧ n1 ≤ 43 := by
            obtain ⟨a', cap', e, _, h3⟩ := G1.out
            simp only [Value.slice.injEq] at e
            obtain ⟨rfl, -, -⟩ := e
            have hi' : i < ts.length := by rw [← HN.out]; exact hlt
            obtain ⟨b, off, a1, n1, c1, e1, e2, e3, e4⟩ := h3 i hi'
            obtain ⟨_, _, _, e5, hn1⟩ := e4.slice
            simp only [Value.slice.injEq] at e5
            have hm : ts.getD i [] ∈ ts := by rw [List.getD_eq_getElem?_getD, List.getElem?_eq_getElem hi']; exact List.getElem_mem hi'
            have h28 := HW.out _ hm
            have hn2 : n1 = (ts.getD i []).length := by rw [← hn1]; exact e5.2.1
            refine ⟨b, off, a1, n1, c1, e1, e3, ?_, by omega⟩
            rcases h28 with h | h <;> (rw [hn2, h]; rfl)
          have HB1 := Kp.mk hb1.1
          have hn43 := hb1.2
          clear hb1
          go_wp2_with fail
          refine (blocks_any n1 wr (by omega)).mono ?_
          rintro r w1 ⟨rfl, rfl⟩
          rw [HB1.out]
          go_wp2_with fail
          exact ⟨⟨i + 1, by omega, by go_num, by go_num, G1, G2⟩, by simp [intOf]; omega⟩
        · have hi' : i = n := by omega
          subst hi'
          clear hlt hi
          go_wp2_with fail
          refine (awake6 wr (HK.out.keep (by rw [← HA.out]; exact G2.out))).mono ?_
          rintro r w1 ⟨rfl, hb⟩
          have G3 : Kp (Below A w w1) := ⟨G2.out.trans (hb.mono (by have := G2.out.size; rw [HA.out]; exact this))⟩
          clear hb
          go_wp2_with fail
          refine (upCost_any x0 w1).mono ?_
          rintro r w2 ⟨rfl, rfl⟩
          rw [HUC.out, ← HT.out, ← HN.out]
          have t2 : ((i : Int) == (i : Int)) = true := by simp
          go_wp2_with fail
          go_ret
          exact ⟨rfl, by rw [← HA.out]; exact G3.out⟩
end Go.Proofs.YtahmioiefmheeaaDoor
