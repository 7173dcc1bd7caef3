/-
  The walk of the law RankBests.
-/
import Derived.Test.YtoembbdjpelogaaBest
import Derived.ProofKit
import Derived.Deep.Slices
import Derived.Deep.Fields
import Derived.Deep.Strs
import Derived.OwnWalk
namespace Go.Proofs.Ytoembbdjpelogaa
open Go.ChangeShapes Go.WideShapes Go.ChangeAt Go.RowKit Go.Deep

theorem cells24' : Try.prog.cellsOf 24 = 3 := by kernel_rfl
theorem cells22' : Try.prog.cellsOf 22 = 1 := by kernel_rfl
theorem cells3' : Try.prog.cellsOf 3 = 1 := by kernel_rfl

def IsKeys (w : World) (a : Option Addr) (len cap : Nat) (f : Nat → K3) : Prop := len ≤ cap ∧ cap ≤ maxLen ∧ HoldsK w a len f

theorem row_keys {H : Type} {enc : TypeId × Value → H} {W : World} {a : Option Addr} {len cap : Nat} {d : DataW H} {p : List MemPlace}
    (k : DataW.Trod enc Try.prog W 0 (fun _ => true) true 43 (.slice a len cap) d p) : ∃ f, IsKeys W a len cap f := by
  obtain ⟨fuel, hf⟩ := k
  rcases open_slice Try.underlying43 hf with ⟨hcs, _⟩ | ⟨x, l, c, m, n, D, Pl, hcs, hb, hl, hm, hmm, hx, hi⟩
  · simp [Value.cells] at hcs
    obtain ⟨rfl, rfl, rfl⟩ := hcs
    exact ⟨fun _ => (0, 0, 0), by omega, by unfold maxLen; omega, fun h => by omega⟩
  · simp [Value.cells] at hcs
    obtain ⟨rfl, rfl, rfl⟩ := hcs
    have hmc : m = cap := by simpa using hmm
    subst hmc
    have each : ∀ i, i < m → ∃ z : K3, W.cell? (x.add (i * 3)) = some (.int .u32 z.1) ∧ W.cell? (x.add (i * 3 + 1)) = some (.int .u32 z.2.1) ∧ W.cell? (x.add (i * 3 + 2)) = some (.int .i64 z.2.2) := fun i him => by
      obtain ⟨cs, hc, ht⟩ := hi i him
      rw [cells24'] at hc
      obtain ⟨_, hcl, hat⟩ := World.cells?_some hc
      match cs, hcl with
      | [v0, v1, v2], _ =>
        obtain ⟨y0, y1, y2, n2, _, _, t0, t1, t2⟩ := trod_struct3 Try.underlying24 ht
        simp only [List.drop_zero, List.drop_succ_cons, cells22', cells3', List.take_succ_cons, List.take_zero] at t0 t1 t2
        obtain ⟨u, e0, _, wu⟩ := DataW.trod_int Try.underlying22 t0
        obtain ⟨v, e1, _, wv⟩ := DataW.trod_int Try.underlying22 t1
        obtain ⟨z, e2, _, wz⟩ := DataW.trod_int Try.underlying3 t2
        simp only [List.cons.injEq, and_true] at e0 e1 e2
        subst e0 e1 e2
        have h0 := hat 0 (by omega)
        have h1 := hat 1 (by omega)
        have h2 := hat 2 (by omega)
        rw [add_add] at h0 h1 h2
        exact ⟨(u, v, z), by simpa using h0, by simpa using h1, by simpa using h2⟩
    have hex : ∃ f : Nat → K3, ∀ i, i < m → W.cell? (x.add (i * 3)) = some (.int .u32 (f i).1) ∧ W.cell? (x.add (i * 3 + 1)) = some (.int .u32 (f i).2.1) ∧ W.cell? (x.add (i * 3 + 2)) = some (.int .i64 (f i).2.2) := by
      refine ⟨fun i => if h : i < m then Classical.choose (each i h) else (0, 0, 0), fun i hi => ?_⟩
      simp only [hi, dif_pos]
      exact Classical.choose_spec (each i hi)
    obtain ⟨f, hf'⟩ := hex
    refine ⟨f, hl, hm, fun h0 => ?_⟩
    obtain ⟨b, off, spot⟩ := x
    have h1 := (hf' 0 (by omega)).1
    have hspot : spot = none := by simpa [Addr.add] using World.cell?_spot h1
    subst hspot
    refine ⟨b, off, rfl, World.block_lt_of_cell? W _ h1, fun i hi => ?_⟩
    have := hf' i (by omega)
    rw [add_plain, add_plain, add_plain] at this
    exact this

theorem HoldsK.less {w : World} {a : Option Addr} {n m : Nat} {f : Nat → K3} (h : HoldsK w a n f) (hm : m ≤ n) : HoldsK w a m f := by
  intro h0
  obtain ⟨b, off, e, hlt, hc⟩ := h (by omega)
  exact ⟨b, off, e, hlt, fun i hi => hc i (by omega)⟩
theorem ownsRow_keep {w w' : World} {base e s n : Nat} {v : Value} {xs : List Value} (h : w.ownsRow base e s v n xs) (hb : Below w.heap.size w w') : w'.ownsRow base e s v n xs := by
  refine ⟨h.1, ?_⟩
  rcases h.2 with h2 | ⟨g, cap, cur, e1, e2, e3, h4⟩
  · exact .inl h2
  · exact .inr ⟨g, cap, cur, e1, e2, (hb.block g (Array.getElem?_eq_some_iff.1 e3).1).trans e3, h4⟩

theorem keys_of_row {w : World} {base n : Nat} {v : Value} {f : Nat → K3} (h : w.ownsRow base 26 3 v n (cells3 f n)) : ∃ a cap, v = .slice a n cap ∧ HoldsK w a n f := by
  by_cases h0 : 0 < n
  · obtain ⟨g, cap, rfl, _⟩ : ∃ g cap, v = .slice (some ⟨g, 0, none⟩) n cap ∧ True := by
      rcases h.2 with ⟨_, hn⟩ | ⟨g, cap, cur, e1, _⟩
      · omega
      · exact ⟨g, cap, e1, trivial⟩
    refine ⟨_, cap, rfl, fun _ => ⟨g, 0, rfl, (h.lt g rfl).2, fun i hi => ?_⟩⟩
    obtain ⟨c0, c1, c2⟩ := cells3_at f n i hi
    have e0 := h.cells (g := g) rfl _ _ c0
    have e1 := h.cells (g := g) rfl _ _ c1
    have e2 := h.cells (g := g) rfl _ _ c2
    rw [add_plain] at e0 e1 e2
    rw [Nat.zero_add] at e0 e1 e2 ⊢
    exact ⟨e0, e1, e2⟩
  · rcases h.2 with ⟨rfl, hn⟩ | ⟨g, cap, cur, rfl, _, _⟩
    · exact ⟨none, 0, by rw [hn], fun h => absurd h h0⟩
    · exact ⟨_, cap, rfl, fun h => absurd h h0⟩

theorem info26 : (Try.prog.info? 26).map (fun i => (i.zero, i.size, i.bytes)) = some (some (.agg #[.int .u32 0, .int .u32 0, .int .i64 0]), 3, 16) := by kernel_rfl

theorem own_far3 {w : World} {base n b : Nat} {v : Value} {xs : List Value} {e : TypeId} {s : Nat} (h : w.ownsRow base e s v n xs) (hb : b < base) : some b ≠ v.ownBlock := by
  rcases h.2 with ⟨rfl, _⟩ | ⟨g, cap, cur, rfl, hg, _⟩
  · simp [Value.ownBlock]
  · simp [Value.ownBlock]; omega

set_option maxRecDepth 100000 in
set_option maxHeartbeats 3200000 in
theorem bests_few (a : Option Addr) (len cap : Nat) (f : Nat → K3) (w : World) (hk : IsKeys w a len cap f) (hlen : len ≤ 200) :
    Calls Try.prog 7 #[.slice a len cap] w fun r w' => r = .returned (.bool true) ∧ Below w.heap.size w w' := by
  obtain ⟨hk1, hk2, hk3⟩ := hk
  unfold maxLen at hk2
  have u0 : (len : Int) ≤ 200 := by omega
  have HA := Lib.hid hk3
  clear hk3
  obtain ⟨i0, hi, hz0, hz1, hz2⟩ := info_parts info26
  go_enter Try.func7, Try.ntmps7
  go_wp2_with fail
  go_loopw [3, 5, 13] (fun v _ c wr => ∃ k : Nat, k ≤ len ∧ c = .int .i64 k ∧ wr.ownsRow w.heap.size 26 3 v k (cells3 f k) ∧ Below w.heap.size w wr) (fun _ _ c _ => len - (intOf c).toNat)
  case atStart => exact ⟨0, by omega, rfl, World.ownsRow_nil _ _ _ _, Below.refl _ _⟩
  case round =>
    obtain ⟨k, hkn, rfl, hown, E0⟩ := hrel
    have HOWN := Lib.hid hown
    clear hown
    have S0 := E0.size
    by_cases hlt : k < len
    · obtain ⟨b, off, rfl, hbB, hc⟩ := HA.out (by omega)
      obtain ⟨h0, h1, h2⟩ := hc k hlt
      have d0 := (E0.cell (p := ⟨b, off + k * 3, none⟩) hbB).trans h0
      have d1 := (E0.cell (p := ⟨b, off + k * 3 + 1, none⟩) hbB).trans h1
      have d2 := (E0.cell (p := ⟨b, off + k * 3 + 2, none⟩) hbB).trans h2
      clear hc h0 h1 h2
      go_wp2_with fail
      refine (to_any _ _ _ _).mono ?_
      rintro r w2 ⟨rfl, hb⟩
      have E2 := (more E0 (.cells #[.int .u32 (f k).1, .int .u32 (f k).2.1, .int .i64 (f k).2.2] 24)).trans (hb.mono (by simp; omega))
      have HOWN2 := Lib.hid (ownsRow_keep (HOWN.out.alloc (.cells #[.int .u32 (f k).1, .int .u32 (f k).2.1, .int .i64 (f k).2.2] 24)) hb)
      have S2 := E2.size
      clear hb d0 d1 d2
      go_wp2_with (at_builtin; refine wpList_append_own _ rfl _ _ 44 rfl w.heap.size 26 i0 (.agg #[.int .u32 0, .int .u32 0, .int .i64 0]) 3 16 Try.underlying44 hi hz0 hz1 hz2 rfl (by decide) _ _ _ rfl (HOWN2.out.alloc _) ⟨w2.heap.size, 0, none⟩ 1 1 [.int .u32 (f k).1, .int .u32 (f k).2.1, .int .i64 (f k).2.2] rfl rfl ?c1 ?c2 ?c3 ?c4 ?c5 ?_)
      case c1 =>
        intro j u hj
        match j, hj with
        | 0, hj => simp at hj; subst hj; simp [Addr.add]
        | 1, hj => simp at hj; subst hj; simp [Addr.add]
        | 2, hj => simp at hj; subst hj; simp [Addr.add]
      case c2 =>
        intro u hu
        simp at hu
        rcases hu with rfl | rfl | rfl <;> rfl
      case c3 => unfold maxLen; omega
      case c4 => omega
      case c5 => simp; omega
      · intro v' w3 hown' hgrow _
        have HO3 := Lib.hid hown'
        have HG3 := Lib.hid hgrow
        clear hown' hgrow
        go_wp2_with fail
        refine ⟨⟨k + 1, by omega, by go_num, HO3.out, (more E2 _).grown HG3.out (by simp; omega) (fun j hj => ?_)⟩, by simp [intOf]; omega⟩
        have := own_far3 (b := j) HOWN2.out
        false_or_by_contra
        exact this (by omega) hj.symm
    · obtain rfl : k = len := by omega
      obtain ⟨a2, cap2, rfl, hk2'⟩ := keys_of_row HOWN.out
      have HK2 := Lib.hid hk2'
      clear hk2'
      go_wp2_with fail
      refine (best_any f k cap2 a2 _ (by omega) HK2.out).mono ?_
      rintro r w5 ⟨bk, rfl, hbk, hb5⟩
      have HBK := Lib.hid hbk
      have E5 := thru E0 hb5
      have HA5 := Lib.hid (HA.out.keep E5)
      clear hbk hb5
      go_wp2_with fail
      refine (refBest_any f k cap a _ bk (by omega) HA5.out HBK.out).mono ?_
      rintro r w6 ⟨rfl, hb6⟩
      have E6 := thru E5 hb6
      clear hb6
      go_wp2_with fail
      refine (right_any _ _ _ _).mono ?_
      rintro r w7 ⟨rfl, hb7⟩
      have E7 := thru E6 hb7
      rw [right_zero]
      go_wp2_with fail
      go_ret
      exact ⟨rfl, E7⟩
set_option maxRecDepth 100000 in
set_option maxHeartbeats 3200000 in
theorem bests_many (a : Option Addr) (len cap : Nat) (f : Nat → K3) (w : World) (hk : IsKeys w a len cap f) (hlen : 200 < len) :
    Calls Try.prog 7 #[.slice a len cap] w fun r w' => r = .returned (.bool true) ∧ Below w.heap.size w w' := by
  obtain ⟨hk1, hk2, hk3⟩ := hk
  unfold maxLen at hk2
  have u0 : (200 : Int) < len := by omega
  have u1 : (200 : Int) ≤ cap := by omega
  have HA := Lib.hid hk3
  clear hk3
  obtain ⟨i0, hi, hz0, hz1, hz2⟩ := info_parts info26
  go_enter Try.func7, Try.ntmps7
  go_wp2_with fail
  go_loopw [3, 5, 13] (fun v _ c wr => ∃ k : Nat, k ≤ 200 ∧ c = .int .i64 k ∧ wr.ownsRow w.heap.size 26 3 v k (cells3 f k) ∧ Below w.heap.size w wr) (fun _ _ c _ => 200 - (intOf c).toNat)
  case atStart => exact ⟨0, by omega, rfl, World.ownsRow_nil _ _ _ _, Below.refl _ _⟩
  case round =>
    obtain ⟨k, hkn, rfl, hown, E0⟩ := hrel
    have HOWN := Lib.hid hown
    clear hown
    have S0 := E0.size
    by_cases hlt : k < 200
    · obtain ⟨b, off, rfl, hbB, hc⟩ := HA.out (by omega)
      obtain ⟨h0, h1, h2⟩ := hc k (by omega)
      have d0 := (E0.cell (p := ⟨b, off + k * 3, none⟩) hbB).trans h0
      have d1 := (E0.cell (p := ⟨b, off + k * 3 + 1, none⟩) hbB).trans h1
      have d2 := (E0.cell (p := ⟨b, off + k * 3 + 2, none⟩) hbB).trans h2
      clear hc h0 h1 h2
      go_wp2_with fail
      refine (to_any _ _ _ _).mono ?_
      rintro r w2 ⟨rfl, hb⟩
      have E2 := (more E0 (.cells #[.int .u32 (f k).1, .int .u32 (f k).2.1, .int .i64 (f k).2.2] 24)).trans (hb.mono (by simp; omega))
      have HOWN2 := Lib.hid (ownsRow_keep (HOWN.out.alloc (.cells #[.int .u32 (f k).1, .int .u32 (f k).2.1, .int .i64 (f k).2.2] 24)) hb)
      have S2 := E2.size
      clear hb d0 d1 d2
      go_wp2_with (at_builtin; refine wpList_append_own _ rfl _ _ 44 rfl w.heap.size 26 i0 (.agg #[.int .u32 0, .int .u32 0, .int .i64 0]) 3 16 Try.underlying44 hi hz0 hz1 hz2 rfl (by decide) _ _ _ rfl (HOWN2.out.alloc _) ⟨w2.heap.size, 0, none⟩ 1 1 [.int .u32 (f k).1, .int .u32 (f k).2.1, .int .i64 (f k).2.2] rfl rfl ?c1 ?c2 ?c3 ?c4 ?c5 ?_)
      case c1 =>
        intro j u hj
        match j, hj with
        | 0, hj => simp at hj; subst hj; simp [Addr.add]
        | 1, hj => simp at hj; subst hj; simp [Addr.add]
        | 2, hj => simp at hj; subst hj; simp [Addr.add]
      case c2 =>
        intro u hu
        simp at hu
        rcases hu with rfl | rfl | rfl <;> rfl
      case c3 => unfold maxLen; omega
      case c4 => omega
      case c5 => simp; omega
      · intro v' w3 hown' hgrow _
        have HO3 := Lib.hid hown'
        have HG3 := Lib.hid hgrow
        clear hown' hgrow
        go_wp2_with fail
        refine ⟨⟨k + 1, by omega, by go_num, HO3.out, (more E2 _).grown HG3.out (by simp; omega) (fun j hj => ?_)⟩, by simp [intOf]; omega⟩
        have := own_far3 (b := j) HOWN2.out
        false_or_by_contra
        exact this (by omega) hj.symm
    · obtain rfl : k = 200 := by omega
      obtain ⟨a2, cap2, rfl, hk2'⟩ := keys_of_row HOWN.out
      have HK2 := Lib.hid hk2'
      clear hk2'
      go_wp2_with fail
      refine (best_any f 200 cap2 a2 _ (by omega) HK2.out).mono ?_
      rintro r w5 ⟨bk, rfl, hbk, hb5⟩
      have HBK := Lib.hid hbk
      have E5 := thru E0 hb5
      have HA5 := Lib.hid (HoldsK.less (HA.out.keep E5) (show 200 ≤ len by omega))
      clear hbk hb5
      go_wp2_with fail
      refine (refBest_any f 200 cap a _ bk (by omega) HA5.out HBK.out).mono ?_
      rintro r w6 ⟨rfl, hb6⟩
      have E6 := thru E5 hb6
      clear hb6
      go_wp2_with fail
      refine (right_any _ _ _ _).mono ?_
      rintro r w7 ⟨rfl, hb7⟩
      have E7 := thru E6 hb7
      rw [right_zero]
      go_wp2_with fail
      go_ret
      exact ⟨rfl, E7⟩

theorem rankBests_walk (a : Option Addr) (len cap : Nat) (f : Nat → K3) (w : World) (hk : IsKeys w a len cap f) :
    Calls Try.prog 7 #[.slice a len cap] w fun r w' => r = .returned (.bool true) ∧ Below w.heap.size w w' := by
  by_cases h : len ≤ 200
  · exact bests_few a len cap f w hk h
  · exact bests_many a len cap f w hk (by omega)
end Go.Proofs.Ytoembbdjpelogaa
