/-
  mac.Tag, the document's Half.
-/
import Derived.Test.YtpljjmdkagbjpaaDoorHalf
namespace Go.Proofs.YtpljjmdkagbjpaaDoor
open Go.RowKit

theorem macL_len (k p : List Int) : (macL k p).length = 32 := digest_len _
set_option maxRecDepth 100000 in
set_option maxHeartbeats 1000000 in
theorem tag_any (M N : Nat) (v u : Value) (k p : List Int) (w : World) (hk : KonIs w) (hp : HoldsB w M v k) (hq : HoldsB w N u p) (hlen : k.length ≤ 999999999999000) (hlen2 : p.length ≤ 999999999990000) :
    Calls Tryd.prog 94 #[v, u] w fun r w' => r = .returned (.agg (kv .u8 (halfL (macL k p))).toArray) ∧ Below w.heap.size w w' := by
  have HK := Kp.mk hk
  have HP := Kp.mk hp
  have HQ := Kp.mk hq
  have HL := Kp.mk hlen
  have HL2 := Kp.mk hlen2
  clear hk hp hq hlen hlen2
  go_enter Tryd.func94, Tryd.ntmps94
  go_wp2_with fail
  refine calls_world (fun W => Row W w.heap.size 27 .u8 (fill 16 []) ∧ Below w.heap.size w W) ⟨Blk.newAt (w := w) z50 rfl, more (Below.refl _ _) z50⟩ ?_
  rintro w1 ⟨hr, hb⟩
  have HR := Kp.mk hr
  have HB := Kp.mk hb
  clear hr hb
  refine (mac_any M N v u k p w1 (HK.out.keep HB.out) (HP.out.keep HB.out) (HQ.out.keep HB.out) HL.out HL2.out).mono ?_
  rintro r w2 ⟨rfl, h2⟩
  have HR2 := Kp.mk (HR.out.keep h2)
  have HB2 : Kp (Below w.heap.size w w2) := ⟨HB.out.trans (h2.mono HB.out.size)⟩
  have HM := Kp.mk (macL_len k p)
  obtain ⟨d, hd⟩ : ∃ d, d = macL k p := ⟨_, rfl⟩
  rw [← hd] at HM ⊢
  have HD := Kp.mk hd
  clear h2 hd
  go_wp2_with fail
  refine (half_any d w2 HM.out).mono ?_
  rintro r w3 ⟨rfl, h3⟩
  have HR3 := Kp.mk (HR2.out.keep h3)
  have HB3 : Kp (Below w.heap.size w w3) := ⟨HB2.out.trans (h3.mono HB2.out.size)⟩
  have HC := Kp.mk (cells50 (halfL_len HM.out))
  have HZ := Kp.mk (size50 (halfL_len HM.out))
  have HF := Kp.mk (HR3.out.setRow (halfL d))
  have HBf := Kp.mk (Below.row HB3.out (g := w.heap.size) (Nat.le_refl _) (kv .u8 (halfL d)).toArray)
  clear h3
  go_wp2_with (refine wpList_store_row rfl 27 (.tmp 4) (.tmp 8) rfl w.heap.size (kv .u8 (halfL d)).toArray rfl rfl 27 _ HR3.out HC.out HZ.out (kv_all _ _) ?_)
  refine bodyPost_ret (v := .agg (kv .u8 (halfL d)).toArray) ?_ rfl ⟨by rw [HD.out], HBf.out⟩
  exact results_cell_row rfl _ _ w.heap.size 27 _ (0, 0) _ rfl HF.out Tryd.underlying27 rfl HC.out
theorem info49 : (Tryd.prog.info? 25).map (·.size) = some 16 := by kernel_rfl
theorem cells49 {l : List Int} (h : l.length = 16) : (Tryd.prog.info? 25).map (·.size) = some (kv .u8 l).toArray.size := by rw [info49, kv_size, h]
abbrev z49 : Obj := .cells (kv .u8 (fill 16 [])).toArray 25
theorem take_succ_get {l : List Int} {i : Nat} (h : i < l.length) : l.take (i + 1) = l.take i ++ [l.getD i 0] := by
  rw [List.take_succ_eq_append_getElem h, List.getD_eq_getElem?_getD, List.getElem?_eq_getElem h]
  rfl
theorem fill_take {n i : Nat} {l : List Int} (h : i < l.length) (hn : i < n) : (fill n (l.take i)).set i (l.getD i 0) = fill n (l.take (i + 1)) := by
  rw [take_succ_get h]
  have e : (l.take i).length = i := by rw [List.length_take]; omega
  have h2 := fill_set (n := n) (l := l.take i) (by omega) (l.getD i 0)
  rw [e] at h2
  exact h2
set_option maxRecDepth 100000 in
set_option maxHeartbeats 1000000 in
theorem rhalf_any (d : List Int) (w : World) (hd : d.length = 32) :
    Calls Tryd.prog 71 #[.agg (kv .u8 d).toArray] w fun r w' => r = .returned (.agg (kv .u8 (halfL d)).toArray) ∧ Below w.heap.size w w' := by
  have HD := Kp.mk hd
  have HC := Kp.mk (cells49 (halfL_len hd))
  have HZ := Kp.mk (size50 (halfL_len hd))
  clear hd
  go_enter Tryd.func71, Tryd.ntmps71
  go_wp2_with fail
  obtain ⟨A, hA⟩ : ∃ A, A = w.heap.size := ⟨_, rfl⟩
  have HA := Kp.mk hA
  rw [← hA]
  refine wp_world (fun W => Row W A 35 .u8 d ∧ Row W (A + 1) 25 .u8 (fill 16 []) ∧ Row W (A + 2) 25 .u8 (fill 16 []) ∧ Below A w W) ⟨Row.alloc (Row.alloc (Blk.newAt _ hA) z49) z49, Row.alloc (Blk.newAt z49 (by rw [hA]; simp)) z49, Blk.newAt z49 (by rw [hA]; simp), by rw [hA]; exact more (more (more (Below.refl _ _) _) z49) z49⟩ ?_
  rintro W ⟨h1, h2, h3, h4⟩
  have H1 := Kp.mk h1
  have H2 := Kp.mk h2
  have H3 := Kp.mk h3
  have H4 := Kp.mk h4
  clear h1 h2 h3 h4 hA
  go_loopw [4] (fun c wr => ∃ i : Nat, i ≤ 16 ∧ c = .int .i64 i ∧ Row wr A 35 .u8 d ∧ Row wr (A + 1) 25 .u8 (fill 16 []) ∧ Row wr (A + 2) 25 .u8 (fill 16 (d.take i)) ∧ Below A w wr) (fun c _ => 16 - (intOf c).toNat)
  case atStart => exact ⟨0, by omega, rfl, H1.out, H2.out, H3.out, H4.out⟩
  case round =>
    obtain ⟨i, hi, rfl, h1, h2, h3, h4⟩ := hrel
    have G1 := Kp.mk h1
    have G2 := Kp.mk h2
    have G3 := Kp.mk h3
    have G4 := Kp.mk h4
    clear h1 h2 h3 h4 H1 H2 H3 H4
    by_cases hlt : i < 16
    · have c1 := G1.out.cell (i := i) (by rw [HD.out]; omega)
      have c2 := G3.out.cell (i := i) (by rw [fill_len (by rw [List.length_take]; omega)]; exact hlt)
      have f2 := G3.out.frozen i
      have HS := Kp.mk (fill_take (n := 16) (l := d) (i := i) (by rw [HD.out]; omega) hlt)
      generalize d.getD i 0 = x at *
      go_wp2_with fail
      exact ⟨⟨i + 1, by omega, by go_num, G1.out.other (by show A + 2 ≠ A; omega) _, G2.out.other (by show A + 2 ≠ A + 1; omega) _, (G3.out.set i _).as HS.out, G4.out.setCell (by show A ≤ A + 2; omega) _⟩, by simp [intOf]; omega⟩
    · have HI : Kp (i = 16) := ⟨by omega⟩
      have hge : 16 ≤ (i : Int) := by omega
      have G5 : Kp (Row wr (A + 2) 25 .u8 (halfL d)) := ⟨by
        have h := G3.out
        rw [HI.out, fill_full (by rw [List.length_take, HD.out]; rfl)] at h
        exact h⟩
      have HF := Kp.mk (G2.out.setRow (halfL d))
      have HBf := Kp.mk (Below.row G4.out (g := A + 1) (by omega) (kv .u8 (halfL d)).toArray)
      clear hlt hi G3
      go_wp2_with (first
        | (refine wpList_load_row rfl 25 (.tmp 3) rfl (A + 2) rfl 25 (kv .u8 (halfL d)).toArray (0, 0) _ G5.out Tryd.underlying25 rfl HC.out ?_)
        | (refine wpList_store_row rfl 25 (.tmp 2) (.tmp 14) rfl (A + 1) (kv .u8 (halfL d)).toArray rfl rfl 25 _ G2.out HC.out HZ.out (kv_all _ _) ?_))
      refine bodyPost_ret (v := .agg (kv .u8 (halfL d)).toArray) ?_ rfl ⟨rfl, by rw [← HA.out]; exact HBf.out⟩
      exact results_cell_row rfl _ _ (A + 1) 25 _ (0, 0) _ rfl HF.out Tryd.underlying25 rfl HC.out
end Go.Proofs.YtpljjmdkagbjpaaDoor
