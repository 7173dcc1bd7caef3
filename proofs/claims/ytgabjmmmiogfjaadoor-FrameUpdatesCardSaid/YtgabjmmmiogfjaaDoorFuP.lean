/-
  Is an update light?
-/
import Derived.Test.YtgabjmmmiogfjaaDoorFuO
namespace Go.Proofs.YtgabjmmmiogfjaaDoor
open Go.RowKit

theorem info105s {x : EV} (h : x.lf.length = 16) : (Tryd.prog.info? 105).map (·.size) = some (ec x).toArray.size := by
  rw [List.size_toArray, ec_len h]
  kernel_rfl
/-- n entries stand at a, whatever they are. -/
structure HoldsL (w : World) (a : Option Addr) (n : Nat) (f : Nat → EV) : Prop where
  l : ∀ i, i < n → (f i).lf.length = 16
  m : ∀ i, i < n → (f i).wn ≤ maxLen ∧ (f i).pn ≤ maxLen
  c : ∀ i, i < n → ∃ b off, a = some ⟨b, off, none⟩ ∧ b < w.heap.size ∧ w.rangeAt b (off + i * 22) (ec (f i))
theorem HoldsL.keep {w w' : World} {n : Nat} {a : Option Addr} {f : Nat → EV} (h : HoldsL w a n f) (hb : Below w.heap.size w w') : HoldsL w' a n f :=
  ⟨h.l, h.m, fun i hi => by
    obtain ⟨b, off, e1, e3, e4⟩ := h.c i hi
    exact ⟨b, off, e1, Nat.lt_of_lt_of_le e3 hb.size, rangeAt_keepU e4 (hb.block _ e3)⟩⟩
/-- What light answers. -/
def LightPost (n : Nat) (f : Nat → EV) (w : World) (r : Ending) (w' : World) : Prop :=
  ∃ b, r = .returned (.bool b) ∧ (b = true → n ≤ 30 ∧ ∀ i, i < n → (f i).wn ≤ 20 ∧ (f i).pn ≤ 20) ∧ Below w.heap.size w w'
set_option maxRecDepth 100000 in
set_option maxHeartbeats 8000000 in
theorem light_any (u : Bool) (a : Option Addr) (n c : Nat) (f : Nat → EV) (w : World) (h : HoldsL w a n f) (hn : n ≤ maxLen) :
    Calls Tryd.prog 20 #[.agg #[.bool u, .slice a n c]] w (LightPost n f w) := by
  obtain ⟨A, hA⟩ : ∃ A, A = w.heap.size := ⟨_, rfl⟩
  have HAe := Kp.mk hA
  have S0 : Kp (Blk (w.alloc (.cells #[.bool u, .slice a n c] 52)) A (.cells #[.bool u, .slice a n c] 52) ∧ HoldsL (w.alloc (.cells #[.bool u, .slice a n c] 52)) a n f ∧ Below A w (w.alloc (.cells #[.bool u, .slice a n c] 52))) := ⟨Blk.newAt _ hA, h.keep (more (Below.refl _ _) _), by rw [hA]; exact more (Below.refl _ _) _⟩
  have hmx : n ≤ 9223372036854775807 := by unfold maxLen at hn; omega
  clear h hn
  go_enter Tryd.func20, Tryd.ntmps20
  go_wp2_with fail
  rw [← hA]
  clear hA
  generalize w.alloc (.cells #[.bool u, .slice a n c] 52) = W at *
  have p1 : W.cell? ⟨A, 1, none⟩ = some (.slice a n c) := S0.out.1.cell 1
  go_wp2_with fail
  clear p1
  go_loopw [8] (fun ct wr => ∃ i : Nat, i ≤ n ∧ ct = .int .i64 i ∧ Kp ((Blk wr A (.cells #[.bool u, .slice a n c] 52) ∧ HoldsL wr a n f ∧ Below A w wr) ∧ ∀ k, k < i → (f k).wn ≤ 20 ∧ (f k).pn ≤ 20)) (fun ct _ => n - (intOf ct).toNat)
  case atStart => exact ⟨0, by omega, rfl, S0.out, fun k hk => by omega⟩
  case round =>
    obtain ⟨i, hi, rfl, HS⟩ := hrel
    by_cases hlt : i < n
    · obtain ⟨b, off, rfl, hb1, k1⟩ := HS.out.1.2.1.c i hlt
      have HL := Kp.mk (HS.out.1.2.1.l i hlt)
      have HN := Kp.mk (HS.out.1.2.1.m i hlt)
      have HRG := Kp.mk k1
      obtain ⟨x, hx⟩ : ∃ x, x = f i := ⟨_, rfl⟩
      have HX := Kp.mk hx
      rw [← hx] at HL HN HRG
      have HIX := Kp.mk (info105s HL.out)
      have HLEN : Kp ((Tryd.prog.info? 105).map (·.size) = some (ec x).length) := ⟨by have := HIX.out; simpa using this⟩
      have HSZ : Kp ((ec x).toArray.size = 22) := ⟨by rw [List.size_toArray]; exact ec_len HL.out⟩
      clear k1 hb1 hx
      go_wp2_with (first
        | (refine wpList_load_mid rfl 105 (.tmp 10) rfl b (off + i * 22) rfl (ec x) _ HRG.out Tryd.underlying105 rfl HLEN.out ?_)
        | (refine wpList_store_row rfl 105 (.tmp 4) (.tmp 11) rfl wr.heap.size (ec x).toArray rfl rfl 105 _ (Blk.newAt _ rfl) HIX.out (by rw [HSZ.out]; rfl) (ec_one x) ?_; refine wpl_world (fun W => (Blk W A (.cells #[.bool u, .slice (some ⟨b, off, none⟩) n c] 52) ∧ HoldsL W (some ⟨b, off, none⟩) n f ∧ Below A w W) ∧ Blk W wr.heap.size (.cells (ec x).toArray 105)) ⟨by rw [World.setRow_alloc_new]; exact ⟨HS.out.1.1.keep (more (Below.refl _ _) _), HS.out.1.2.1.keep (more (Below.refl _ _) _), HS.out.1.2.2.trans ((more (Below.refl _ _) _).mono (Nat.le_of_lt HS.out.1.1.lt))⟩, by rw [World.setRow_alloc_new]; exact Blk.new _ _⟩ ?_; rintro W6 h6; have S6 := Kp.mk h6; have p20 : W6.cell? ⟨wr.heap.size, 20, none⟩ = some (.slice x.wa x.wn x.wc) := (h6.2.cell 20).trans (by rw [List.getElem?_toArray]; exact ec_20 HL.out); have p21 : W6.cell? ⟨wr.heap.size, 21, none⟩ = some (.slice x.pa x.pn x.pc) := (h6.2.cell 21).trans (by rw [List.getElem?_toArray]; exact ec_21 HL.out); clear h6))
      · go_ret
        exact ⟨_, rfl, fun h => absurd h (by decide), by rw [← HAe.out]; exact S6.out.1.2.2⟩
      · have hle : x.wn ≤ 20 ∧ x.pn ≤ 20 := by
          simp_all
          omega
        exact ⟨⟨i + 1, by omega, by go_num, ⟨S6.out.1, fun k hk => by
          by_cases hk2 : k < i
          · exact HS.out.2 k hk2
          · obtain rfl : k = i := by omega
            rw [← HX.out]
            exact hle⟩⟩, by simp [intOf]; omega⟩
      · go_ret
        exact ⟨_, rfl, fun h => absurd h (by decide), by rw [← HAe.out]; exact S6.out.1.2.2⟩
    · obtain rfl : i = n := by omega
      have p1 : wr.cell? ⟨A, 1, none⟩ = some (.slice a i c) := HS.out.1.1.cell 1
      go_wp2_with fail
      go_ret
      exact ⟨_, rfl, fun h => ⟨by have := of_decide_eq_true h; omega, HS.out.2⟩, by rw [← HAe.out]; exact HS.out.1.2.2⟩
end Go.Proofs.YtgabjmmmiogfjaaDoor
