/-
  A body is split.
-/
import Derived.Test.YtioeaknhcfkfcaaPcJ
namespace Go.Proofs.Ytioeaknhcfkfcaa
open Go.RowKit

set_option maxRecDepth 100000 in
/-- v[k:e]. -/
theorem HoldsB.cut {w : World} {M : Nat} {v : Value} {l : List Int} (h : HoldsB w M v l) {k e : Nat} (hk : k ≤ e) (he : e ≤ l.length) :
    ∃ v', (∀ w1, (Instr.sliceAt 39 v (some (.int .i64 k)) (some (.int .i64 e)) none).run Try.prog w1 = .ok v' w1) ∧ HoldsB w M v' ((l.take e).drop k) := by
  obtain ⟨a, n, cap, rfl, hn⟩ := h.slice
  obtain ⟨v1, r1, h1⟩ := h.front he
  have hcap : n ≤ cap := by
    obtain ⟨a', cap', e1, h2, _⟩ := h
    simp only [Value.slice.injEq] at e1
    omega
  have e1 := r1 w
  rw [run_sliceAt_slice (h := Try.underlying39), run_slice_h (ht := Try.underlying39) (h0 := by omega) (h2 := by omega), elem22, size5] at e1
  simp [Result.andThen] at e1
  obtain ⟨a2, n2, cap2, rfl, hn2⟩ := h1.slice
  unfold sliced at e1
  simp only [Nat.sub_zero, Value.slice.injEq] at e1
  obtain ⟨ea, en, ec⟩ := e1
  have ea' : a2 = a := by
    rw [← ea]
    split
    · rfl
    · cases a <;> simp [Addr.add]
  subst ea' ec
  rw [← en] at h1
  obtain ⟨v2, r2, h2⟩ := h1.back (k := k) (by rw [List.length_take]; omega)
  refine ⟨v2, fun w1 => ?_, h2⟩
  rw [← r2 w1]
  rw [run_sliceAt_slice (h := Try.underlying39), run_slice_lh (ht := Try.underlying39) (h0 := by omega) (h1 := by omega) (h2 := by omega), elem22, size5]
  rw [run_sliceAt_slice (h := Try.underlying39), run_slice_l (ht := Try.underlying39) (h0 := by omega) (h1 := by omega), elem22, size5]
  simp [Result.andThen]
def pieceL (bl : List Int) (sz k : Nat) : List Int := (bl.take (min ((k + 1) * sz) bl.length)).drop (k * sz)
def SplitPost (id : Int) (bl : List Int) (sz m : Nat) (w : World) (r : Ending) (w' : World) : Prop :=
  ∃ Q l, r = .returned (.tuple #[.slice (some ⟨Q, 0, none⟩) m m, .int .i64 0]) ∧ w.heap.size ≤ Q ∧ Below w.heap.size w w' ∧ PRow w' Q l ∧ l.length = m ∧ ∀ (k : Nat) (x : PcV), l[k]? = some x → x.id = id ∧ x.at_ = k ∧ x.many = m ∧ x.l = pieceL bl sz k
set_option maxRecDepth 100000 in
set_option maxHeartbeats 4000000 in
theorem split_any (id : Int) (sz m : Nat) (v : Value) (bl : List Int) (w : World) (h : HoldsB w w.heap.size v bl) (hs : 1 ≤ sz ∧ sz ≤ 4096) (hl : bl.length ≤ 16384) (hm : max (((bl.length : Int) + sz - 1) / sz) 1 = (m : Int)) (hm32 : m ≤ 32) (hk : ∀ k, k < m → k * sz ≤ bl.length) :
    Calls Try.prog 41 #[.int .u32 id, v, .int .i64 sz] w (SplitPost id bl sz m w) := by
  have H := Kp.mk h
  obtain ⟨a, n, cap, rfl, hn⟩ := h.slice
  have HN := Kp.mk hn
  have hn16 : n ≤ 16384 := by omega
  rw [← hn] at hm
  have hz1 : ¬ (sz : Int) < 1 := by omega
  have hz2 : ¬ (4096 : Int) < sz := by omega
  have hz3 : ¬ (16384 : Int) < n := by omega
  have hm3 : ¬ (32 : Int) < m := by omega
  have HKK := Kp.mk hk
  clear h hn hl hk
  have hmk := make30 m hm32
  go_enter Try.func41, Try.ntmps41
  go_wp2_with fail
  obtain ⟨Q, hQ⟩ : ∃ Q, Q = w.heap.size := ⟨_, rfl⟩
  have HQ := Kp.mk hQ
  have HR0 : Kp (PRow (w.alloc (.cells (rcells (List.replicate m noPc)).toArray 103)) Q (List.replicate m noPc)) := ⟨⟨Blk.newAt _ hQ, fun x hx => by rw [List.eq_of_mem_replicate hx]; exact HoldsB.nil _ _⟩⟩
  have HB0 : Kp (Below w.heap.size w (w.alloc (.cells (rcells (List.replicate m noPc)).toArray 103))) := ⟨more (Below.refl _ _) _⟩
  rw [← hQ]
  clear hmk hQ
  generalize w.alloc (.cells (rcells (List.replicate m noPc)).toArray 103) = W at *
  go_loopw [37] (fun c wr => ∃ (i : Nat) (l : List PcV), i ≤ m ∧ c = .int .i64 i ∧ Kp (l.length = m) ∧ Kp (PRow wr Q l) ∧ Kp (Below w.heap.size w wr) ∧ Kp (∀ (k : Nat) (x : PcV), k < i → l[k]? = some x → x.id = id ∧ x.at_ = k ∧ x.many = m ∧ x.l = pieceL bl sz k)) (fun c _ => m - (intOf c).toNat)
  case atStart => exact ⟨0, _, by omega, rfl, ⟨List.length_replicate⟩, HR0, HB0, ⟨fun k x hk => absurd hk (by omega)⟩⟩
  case round =>
    obtain ⟨i, l, hi, rfl, HL, HR, HB, HX⟩ := hrel
    by_cases hlt : i < m
    · have hlt' : (i : Int) < (m : Int) := by omega
      obtain ⟨kz, hkz⟩ : ∃ kz : Nat, kz = i * sz := ⟨_, rfl⟩
      obtain ⟨e, he⟩ : ∃ e : Nat, e = min ((i + 1) * sz) bl.length := ⟨_, rfl⟩
      have hke : kz ≤ e := by have := HKK.out i hlt; rw [he, hkz, Nat.add_mul]; omega
      have hen : e ≤ n := by rw [he, HN.out]; exact Nat.min_le_right _ _
      have hm1 : (i : Int) * sz = (kz : Nat) := by rw [hkz]; simp
      have hm2 : ((i : Int) + 1) * sz = (kz : Nat) + (sz : Nat) := by rw [hkz, Int.add_mul]; simp
      have hme : min ((kz : Int) + (sz : Nat)) (n : Int) = (e : Nat) := by rw [he, hkz, HN.out, Nat.add_mul]; omega
      have hkb : kz ≤ 16384 := by omega
      obtain ⟨u, hcut, hu⟩ := H.out.cut hke (by rw [← HN.out]; exact hen)
      have HU := Kp.mk hu
      obtain ⟨ua, un, uc, rfl, -⟩ := hu.slice
      have HPL : Kp (pieceL bl sz i = (bl.take e).drop kz) := ⟨by unfold pieceL; rw [← hkz, ← he]⟩
      have HEL : Kp (((bl.take e).drop kz).length ≤ 16384) := ⟨by rw [List.length_drop, List.length_take]; omega⟩
      clear hu hkz he
      go_wp2_with fail
      refine (clone_any w.heap.size _ _ wr (HU.out.keep HB.out) (by have := HEL.out; omega)).mono ?_
      rintro r w5 ⟨v', rfl, ho, hb⟩
      have HO5 : Kp (HoldsB w5 w5.heap.size v' ((bl.take e).drop kz)) := ⟨HoldsB.ofRow HU.out.bytes ho⟩
      have HB5 : Kp (Below w.heap.size w w5) := ⟨HB.out.trans (hb.mono HB.out.size)⟩
      have HR5 : Kp (PRow w5 Q l) := ⟨HR.out.keep hb⟩
      have HIL : Kp (i < l.length) := ⟨by rw [HL.out]; exact hlt⟩
      have HTH : Kp (w5.there Q (i * 4) 4) := ⟨fun j hj => ⟨(HR5.out.at HIL.out).isSome j hj, HR5.out.r.frozen _⟩⟩
      obtain ⟨a5, m5, c5, rfl⟩ := row_shape ho
      have HTU : Kp (Turn Q (.cells (rcells (l.set i ⟨id, i, m, .slice a5 m5 c5, (bl.take e).drop kz⟩)).toArray 103) w5 (w5.setCells Q (i * 4) [.int .u32 id, .int .i64 (i : Nat), .int .i64 (m : Nat), .slice a5 m5 c5])) := ⟨turn_piece HIL.out HR5.out.r ⟨id, i, m, .slice a5 m5 c5, (bl.take e).drop kz⟩⟩
      have H1C : Kp ((#[.int .u32 id, .int .i64 (i : Nat), .int .i64 (m : Nat), .slice a5 m5 c5] : Array Value).all (·.oneCell') = true) := ⟨all_oneCell_toArray (cs := [.int .u32 id, .int .i64 (i : Nat), .int .i64 (m : Nat), .slice a5 m5 c5]) (by intro v hv; simp at hv; rcases hv with rfl | rfl | rfl | rfl <;> rfl)⟩
      clear ho hb
      go_wp2_with (refine wpList_store_mid rfl 103 (.tmp 60) (.tmp 59) rfl Q (i * 4) #[.int .u32 id, .int .i64 (i : Nat), .int .i64 (m : Nat), .slice a5 m5 c5] rfl rfl HTH.out info30s H1C.out ?_; refine wpl_world (Turn Q (.cells (rcells (l.set i ⟨id, i, m, .slice a5 m5 c5, (bl.take e).drop kz⟩)).toArray 103) w5) HTU.out ?_; intro w6 ht6; have HT6 := Kp.mk ht6; clear ht6)
      refine ⟨⟨i + 1, l.set i ⟨id, i, m, .slice a5 m5 c5, (bl.take e).drop kz⟩, by omega, rfl, ⟨by rw [List.length_set]; exact HL.out⟩, ⟨HR5.out.put _ HT6.out HO5.out⟩, ⟨HB5.out.trans (HT6.out.below (by have := HQ.out; omega) HB5.out.size)⟩, ⟨fun k x hk hx => ?_⟩⟩, ?_⟩
      · rw [List.getElem?_set] at hx
        split at hx
        · rename_i hik
          rw [if_pos HIL.out] at hx
          simp only [Option.some.injEq] at hx
          subst hx hik
          exact ⟨rfl, rfl, rfl, HPL.out.symm⟩
        · exact HX.out k x (by omega) hx
      · simp only [intOf]
        omega
    · have hee : i = m := by omega
      have hle : (m : Int) ≤ (i : Int) := by omega
      go_wp2_with fail
      exact bodyPost_ret (results_tmp2 rfl _ _ _) rfl ⟨Q, l, rfl, by rw [HQ.out]; exact Nat.le_refl _, HB.out, HR.out, HL.out, fun k x hx => HX.out k x (by have := (List.getElem?_eq_some_iff.1 hx).1; rw [HL.out] at this; omega) hx⟩
end Go.Proofs.Ytioeaknhcfkfcaa
