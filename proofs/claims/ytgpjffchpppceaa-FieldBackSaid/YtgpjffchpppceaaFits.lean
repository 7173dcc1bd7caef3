/-
  The contract of the law's helper fits.
-/
import Derived.Test.YtgpjffchpppceaaItemsB
import Derived.Test.YtgpjffchpppceaaTakeP
namespace Go.Proofs.Ytgpjffchpppceaa
open Go.RowKit

theorem ItemE.cells {W : World} {C : List Value} {kind num : Int} {p : List Int} {v3 v4 : Value} {n3 : Nat} {S Bb : List Int} {most : Int} (h : ItemE W C kind num p v3 v4 n3 S Bb most) :
    C.length = 21 ∧ (∀ v ∈ C, v.oneCell' = true) ∧ C[0]? = some (.int .i64 kind) ∧ C[1]? = some (.int .u64 num) ∧ C[18]? = some v3 ∧ C[19]? = some v4 ∧ C[20]? = some (.int .i64 most) := by
  have hs : ∃ a c, v3 = .slice a n3 c := by obtain ⟨a, c, h1, _⟩ := h.s; exact ⟨a, c, h1⟩
  have hb : ∃ a n c, v4 = .slice a n c := by obtain ⟨a, n, c, h1, _⟩ := h.b.slice; exact ⟨a, n, c, h1⟩
  obtain ⟨a3, c3, rfl⟩ := hs
  obtain ⟨a4, n4, c4, rfl⟩ := hb
  have hl : (bv p).length = 16 := by rw [List.length_map, h.len]
  have hone := bv_one p
  have he := h.eq
  generalize bv p = q at hl hone he
  subst he
  refine ⟨by simp [hl], ?_, rfl, rfl, ?_, ?_, ?_⟩
  · intro v hv
    simp only [List.mem_cons, List.mem_append, List.not_mem_nil, or_false] at hv
    rcases hv with rfl | rfl | hv | rfl | rfl | rfl
    · rfl
    · rfl
    · exact hone v hv
    · rfl
    · rfl
    · rfl
  all_goals
    simp only [List.getElem?_cons_succ]
    rw [List.getElem?_append_right (by omega), hl]
    rfl

def FitsPost (len : Nat) (C : Nat → List Value) (W : World) (r : Ending) (w' : World) : Prop :=
  (r = .returned (.bool false) ∨ (r = .returned (.bool true) ∧ len ≤ 60 ∧ ∀ i, i < len → ∃ kind num p v3 v4 n3 S Bb most, ItemE W (C i) kind num p v3 v4 n3 S Bb most ∧ n3 ≤ 300 ∧ Bb.length ≤ 5000)) ∧ Below W.heap.size W w'
set_option maxHeartbeats 3200000 in
theorem fits_any (a : Option Addr) (len cap : Nat) (C : Nat → List Value) (w : World) (h : IsFull w a len C) :
    Calls Try.prog 9 #[.slice a len cap] w (FitsPost len C w) := by
  obtain ⟨hl, hC⟩ := h
  unfold maxLen at hl
  have HC := Lib.hid hC
  clear hC
  by_cases h60 : 60 < len
  · go_enter Try.func9, Try.ntmps9
    go_wp2_with fail
    go_ret
    exact ⟨.inl rfl, Below.refl _ _⟩
  · go_enter Try.func9, Try.ntmps9
    go_wp2_with fail
    go_loopw [10] (fun c wr => ∃ i : Nat, i ≤ len ∧ c = .int .i64 i ∧ Below w.heap.size w wr ∧ ∀ j, j < i → ∃ kind num p v3 v4 n3 S Bb most, ItemE w (C j) kind num p v3 v4 n3 S Bb most ∧ n3 ≤ 300 ∧ Bb.length ≤ 5000) (fun c _ => len - (intOf c).toNat)
    case atStart => exact ⟨0, by omega, rfl, Below.refl _ _, fun j hj => by omega⟩
    case round =>
      obtain ⟨i, hi, rfl, hbel, hall⟩ := hrel
      have HB := Lib.hid hbel
      have HA := Lib.hid hall
      clear hbel hall
      by_cases hlt : i < len
      · obtain ⟨b, off, rfl, hbl, hc⟩ := HC.out (by omega)
        obtain ⟨hrange, kind, num, p, v3, v4, n3, S, Bb, most, hitem⟩ := hc i hlt
        have HIT := Lib.hid hitem
        obtain ⟨e1, e2, -, -, e5, e6, -⟩ := hitem.cells
        have hs : ∃ a c, v3 = .slice a n3 c := by obtain ⟨a, c, h1, _⟩ := hitem.s; exact ⟨a, c, h1⟩
        have hb4 : ∃ a c, v4 = .slice a Bb.length c := by obtain ⟨a, n, c, h1, h2⟩ := hitem.b.slice; exact ⟨a, c, by rw [h1, h2]⟩
        obtain ⟨a3, c3, rfl⟩ := hs
        obtain ⟨a4, c4, rfl⟩ := hb4
        have HR := Lib.hid (range_below hrange HB.out hbl)
        have H45 := Lib.hid (info45' e1)
        have HL45 := Lib.hid (infoL45 e1)
        have HSZ := Lib.hid (size45 e1)
        have HAL := Lib.hid (all45 e2)
        have G : Blk ((wr.alloc z45).setRow wr.heap.size (C i).toArray) wr.heap.size (.cells (C i).toArray 45) := (Blk.new wr z45).setRow _
        have g18 := G.cell 18
        have g19 := G.cell 19
        rw [show (C i).toArray[18]? = _ by simpa using e5] at g18
        rw [show (C i).toArray[19]? = _ by simpa using e6] at g19
        have HB2 : Hid (Below w.heap.size w ((wr.alloc z45).setRow wr.heap.size (C i).toArray)) := HB.out.trans ((Below.row (more (Below.refl _ wr) z45) (Nat.le_refl _) (C i).toArray).mono HB.out.size)
        clear hc hrange hitem hbl e1 e2 e5 e6 G
        by_cases hok : n3 ≤ 300 ∧ Bb.length ≤ 5000
        · have t1 : ¬ (300 : Int) < n3 := by omega
          have t2 : ¬ (5000 : Int) < Bb.length := by omega
          have HN : Hid (∀ j, j < i + 1 → ∃ kind num p v3 v4 n3 S Bb most, ItemE w (C j) kind num p v3 v4 n3 S Bb most ∧ n3 ≤ 300 ∧ Bb.length ≤ 5000) := fun j hj => by
            by_cases he : j = i
            · subst he
              exact ⟨_, _, _, _, _, _, _, _, _, HIT.out, hok⟩
            · exact HA.out j (by omega)
          clear hok
          go_wp2_with (first
            | (refine wpList_load_mid rfl 45 (.tmp 12) rfl b (off + i * 21) rfl (C i) _ HR.out Try.underlying45 rfl HL45.out ?_)
            | (refine wpList_store_row rfl 45 (.tmp 4) (.tmp 13) rfl wr.heap.size (C i).toArray rfl rfl 45 _ (Blk.new wr z45) H45.out HSZ.out HAL.out ?_))
          exact ⟨⟨i + 1, by omega, by go_num, HB2.out, HN.out⟩, by simp [intOf]; omega⟩
        · have HP : Hid (FitsPost len C w (.returned (.bool false)) ((wr.alloc z45).setRow wr.heap.size (C i).toArray)) := ⟨.inl rfl, HB2.out⟩
          by_cases t1 : (300 : Int) < n3
          · clear hok
            go_wp2_with (first
              | (refine wpList_load_mid rfl 45 (.tmp 12) rfl b (off + i * 21) rfl (C i) _ HR.out Try.underlying45 rfl HL45.out ?_)
              | (refine wpList_store_row rfl 45 (.tmp 4) (.tmp 13) rfl wr.heap.size (C i).toArray rfl rfl 45 _ (Blk.new wr z45) H45.out HSZ.out HAL.out ?_))
            go_ret
            exact HP.out
          · have t2 : (5000 : Int) < Bb.length := by omega
            clear hok
            go_wp2_with (first
              | (refine wpList_load_mid rfl 45 (.tmp 12) rfl b (off + i * 21) rfl (C i) _ HR.out Try.underlying45 rfl HL45.out ?_)
              | (refine wpList_store_row rfl 45 (.tmp 4) (.tmp 13) rfl wr.heap.size (C i).toArray rfl rfl 45 _ (Blk.new wr z45) H45.out HSZ.out HAL.out ?_))
            go_ret
            exact HP.out
      · obtain rfl : i = len := by omega
        go_wp2_with fail
        go_ret
        exact ⟨.inr ⟨rfl, by omega, HA.out⟩, HB.out⟩
end Go.Proofs.Ytgpjffchpppceaa
