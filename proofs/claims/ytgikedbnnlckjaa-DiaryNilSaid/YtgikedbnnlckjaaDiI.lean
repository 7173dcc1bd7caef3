/-
  The law DiaryNil, walked.
-/
import Derived.Test.YtgikedbnnlckjaaDiH
namespace Go.Proofs.Ytgikedbnnlckjaa
open Go.RowKit

set_option maxRecDepth 100000 in
set_option maxHeartbeats 4000000 in
theorem dawake_any (w : World) : Calls Try.prog 25 #[] w fun r w' => r = .returned (.bool true) ∧ Below w.heap.size w w' := by
  have h2 := new_any 8 w (by decide) (by decide)
  have hneed := fun w => need_any 51 w (by decide)
  obtain ⟨xz, hxz⟩ : ∃ xz, xz = readZ e3S 4 := ⟨_, rfl⟩
  have HXZ := Kp.mk hxz
  have HX36 : Kp (xz[3]? = some 1 ∧ xz[6]? = some 7) := ⟨by rw [hxz]; exact ex_read.2⟩
  go_enter Try.func25, Try.ntmps25
  go_wp2_with fail
  refine h2.mono ?_
  rintro r w1 ⟨rfl, h1, hb1⟩
  have H1 := Kp.mk h1
  have HB1 := Kp.mk hb1
  clear h1 hb1 h2 hxz
  go_wp2_with fail
  refine (start_any w.heap.size (.slice none 0 0) e1S e1S e2S e3S 1 _ H1.out (by decide) (by decide) (by decide) (by decide) ex_wipe (by decide) (by decide) ex_write rfl ex_len.1 ex_len.2.1 ex_flush rfl ex_len.2.2.2 w.heap.size (Nat.le_refl _)).mono ?_
  rintro r w2 ⟨db, v2, rfl, hd2, hb2⟩
  have HD2 := Kp.mk hd2
  have HB2 : Kp (Below w.heap.size w w2) := ⟨HB1.out.trans hb2⟩
  clear hd2 hb2
  go_wp2_with fail
  refine (read_any _ v2 e3S 4 _ HD2.out.is ex_len.2.2.1).mono ?_
  rintro r w3 ⟨rfl, hb3⟩
  rw [← HXZ.out, ex_read.1]
  have HXL : Kp (xz.length = 64) := ⟨by rw [HXZ.out]; exact (readZ_len HD2.out.is.k 4).1⟩
  have HD3 := Kp.mk (HD2.out.keep hb3)
  have HB3 : Kp (Below w.heap.size w w3) := ⟨HB2.out.trans (hb3.mono HB2.out.size)⟩
  clear hb3
  go_wp2_with (first
    | (refine wpList_alloc_row rfl 35 rfl _ _ infoz64 ?_; refine wpl_world (w := w3.alloc (.cells (kv .u8 z64).toArray 35)) (fun w6 => Row w6 w3.heap.size 35 .u8 z64 ∧ Below w3.heap.size w3 w6) ⟨Blk.new _ _, more (Below.refl _ _) _⟩ ?_; rintro W8 ⟨h1, h2⟩; have K1 := Kp.mk h1; have K2 := Kp.mk h2; clear h1 h2)
    | (refine wpList_store_row rfl 35 (.tmp 5) (.tmp 19) rfl w3.heap.size (kv .u8 xz).toArray rfl rfl 35 _ K1.out (cells64 HXL.out) (by rw [kv_size, kv_size, HXL.out, z64_len]) (kv_all _ _) ?_; refine wpl_world (fun w6 => Row w6 w3.heap.size 35 .u8 xz ∧ Below w3.heap.size w3 w6) ⟨K1.out.setRow _, Below.row K2.out (Nat.le_refl _) _⟩ ?_; rintro W4 ⟨h1, h2⟩; have HX4 := Kp.mk h1; have HB4 := Kp.mk h2; have HD4 := Kp.mk (HD3.out.keep h2); have c3 : W4.cell? ⟨w3.heap.size, 3, none⟩ = some (.int .u8 1) := (by rw [Blk.cell h1 3, List.getElem?_toArray, List.getElem?_map, HX36.out.1]; rfl); have c6 : W4.cell? ⟨w3.heap.size, 6, none⟩ = some (.int .u8 7) := (by rw [Blk.cell h1 6, List.getElem?_toArray, List.getElem?_map, HX36.out.2]; rfl); clear h1 h2 K1 K2))
  refine (free_any db _ v2 e3S 1 1 _ HD4.out).mono ?_
  rintro r w5 ⟨rfl, hb5⟩
  rw [show ((e3S.n / 2 : Nat) : Int) - ((1 : Nat) : Int) = 3 by rw [ex_len.2.2.2]; rfl]
  have HB5 : Kp (Below w.heap.size w w5) := ⟨(HB3.out.trans (HB4.out.mono HB3.out.size)).trans (hb5.mono (by have := HB3.out.size; have := HB4.out.size; omega))⟩
  clear hb5 c3 c6
  go_wp2_with fail
  refine (hneed _).mono ?_
  rintro r w6 ⟨rfl, rfl⟩
  rw [show (if (51 : Int) < 1 then (1 : Int) else (51 - 1) / 50 + 1) = 2 by decide]
  go_wp2_with fail
  go_ret
  exact ⟨rfl, HB5.out⟩
open Go.Deep Go.Joins in
/-- A slice of bytes that came in: no longer than a slice can be. -/
theorem row_len {H : Type} {enc : TypeId × Value → H} {W : World} {a : Option Addr} {len cap : Nat} {d : DataW H} {p : List MemPlace}
    (k : DataW.Trod enc Try.prog W 0 (fun _ => true) true 47 (.slice a len cap) d p) : ∃ _ : Unit, len ≤ maxLen := by
  obtain ⟨fuel, hf⟩ := k
  rcases open_slice Try.underlying47 hf with ⟨hcs, _⟩ | ⟨x, l, c, m, n, D, Pl, hcs, hb, hl, hm, hmm, hx, hi⟩
  · simp [Value.cells] at hcs
    obtain ⟨rfl, rfl, rfl⟩ := hcs
    exact ⟨(), by unfold maxLen; omega⟩
  · simp [Value.cells] at hcs
    obtain ⟨rfl, rfl, rfl⟩ := hcs
    exact ⟨(), by omega⟩
set_option maxRecDepth 100000 in
set_option maxHeartbeats 4000000 in
theorem diaryNil_walk (n : Int) (a : Option Addr) (len cap : Nat) (_ : Unit) (w : World) (hn : (Lit.int .i64 n).wf = true) (hl : len ≤ maxLen) : Calls Try.prog 8 #[.int .i64 n, .slice a len cap] w fun e w' => e = .returned (.bool true) ∧ Below w.heap.size w w' := by
  have hI := i64_of hn
  have h9 : n ≤ 9223372036854775807 := hI.2
  have hneed := fun w => need_any n w h9
  have H1 := fun w => new_any 1 w (by decide) (by decide)
  have HS : Kp (∀ (g : Nat) (w : World), SlIs w g (.slice none 0 0) (newS 1) → (newS 1).n < 2) := ⟨fun _ _ _ => by decide⟩
  clear hn hI
  go_enter Try.func8, Try.ntmps8
  go_wp2_with fail
  refine (load_nil _).mono ?_
  rintro r w1 ⟨rfl, rfl⟩
  go_wp2_with fail
  refine (start_nil _ _).mono ?_
  rintro r w1 ⟨rfl, rfl⟩
  go_wp2_with fail
  refine (H1 _).mono ?_
  rintro r w2 ⟨rfl, h1, hb1⟩
  have HI := Kp.mk h1
  have HB := Kp.mk hb1
  clear h1 hb1 H1
  go_wp2_with fail
  refine (load_small _ _ _ _ HI.out (by decide)).mono ?_
  rintro r w3 ⟨rfl, rfl⟩
  go_wp2_with fail
  refine (start_small _ _ _ _ _ HI.out (by decide)).mono ?_
  rintro r w3 ⟨rfl, rfl⟩
  have HNil : Kp True := ⟨trivial⟩
  by_cases h0 : 0 < n
  · by_cases h40 : n < 1099511627776
    · have hr := fun w => rneed_any n w (by omega) (by omega)
      have h40' : ¬ 1099511627776 ≤ n := by omega
      have HN1 : Kp (¬ n < 1) := ⟨by omega⟩
      have HBd : Kp (n ≤ 1099511627776 ∧ 1 ≤ n) := ⟨by omega⟩
      go_wp2_with fail
      refine (hr _).mono ?_
      rintro r w3 ⟨rfl, rfl⟩
      obtain ⟨m, hm⟩ : ∃ m, m = (n - 1) / 50 + 1 := ⟨_, rfl⟩
      have HM := Kp.mk hm
      rw [← hm]
      clear hr hm
      go_wp2_with fail
      refine (dawake_any _).mono ?_
      rintro r w4 ⟨rfl, hb4⟩
      have HB4 : Kp (Below w.heap.size w w4) := ⟨HB.out.trans (hb4.mono HB.out.size)⟩
      clear hb4
      go_wp2_with fail
      refine (append_nil _ _ _ _).mono ?_
      rintro r w3 ⟨rfl, rfl⟩
      go_wp2_with fail
      refine (dflush_nil _).mono ?_
      rintro r w3 ⟨rfl, rfl⟩
      go_wp2_with fail
      refine (gen_nil _).mono ?_
      rintro r w3 ⟨rfl, rfl⟩
      go_wp2_with fail
      refine (free_nil _).mono ?_
      rintro r w3 ⟨rfl, rfl⟩
      go_wp2_with fail
      refine (hneed _).mono ?_
      rintro r w3 ⟨rfl, rfl⟩
      rw [if_neg (show ¬ n < 1 by have := HN1.out; omega), ← HM.out]
      go_wp2_with fail
      go_ret
      exact ⟨rfl, HB4.out⟩
    · have h40' : 1099511627776 ≤ n := by omega
      go_wp2_with fail
      refine (dawake_any _).mono ?_
      rintro r w4 ⟨rfl, hb4⟩
      have HB4 : Kp (Below w.heap.size w w4) := ⟨HB.out.trans (hb4.mono HB.out.size)⟩
      clear hb4
      go_wp2_with fail
      refine (append_nil _ _ _ _).mono ?_
      rintro r w3 ⟨rfl, rfl⟩
      go_wp2_with fail
      refine (dflush_nil _).mono ?_
      rintro r w3 ⟨rfl, rfl⟩
      go_wp2_with fail
      refine (gen_nil _).mono ?_
      rintro r w3 ⟨rfl, rfl⟩
      go_wp2_with fail
      refine (free_nil _).mono ?_
      rintro r w3 ⟨rfl, rfl⟩
      go_wp2_with fail
      go_ret
      exact ⟨rfl, HB4.out⟩
  · have h0' : n ≤ 0 := by omega
    have HN1 : Kp (n < 1) := ⟨by omega⟩
    have h40' : ¬ 1099511627776 ≤ n := by omega
    go_wp2_with fail
    refine (dawake_any _).mono ?_
    rintro r w4 ⟨rfl, hb4⟩
    have HB4 : Kp (Below w.heap.size w w4) := ⟨HB.out.trans (hb4.mono HB.out.size)⟩
    clear hb4
    go_wp2_with fail
    refine (append_nil _ _ _ _).mono ?_
    rintro r w3 ⟨rfl, rfl⟩
    go_wp2_with fail
    refine (dflush_nil _).mono ?_
    rintro r w3 ⟨rfl, rfl⟩
    go_wp2_with fail
    refine (gen_nil _).mono ?_
    rintro r w3 ⟨rfl, rfl⟩
    go_wp2_with fail
    refine (free_nil _).mono ?_
    rintro r w3 ⟨rfl, rfl⟩
    go_wp2_with fail
    refine (hneed _).mono ?_
    rintro r w3 ⟨rfl, rfl⟩
    rw [if_pos HN1.out]
    go_wp2_with fail
    go_ret
    exact ⟨rfl, HB4.out⟩
end Go.Proofs.Ytgikedbnnlckjaa
