/-
  The document's Tag; the law MacTags, walked.
-/
import Derived.Test.YtkdejiggblngkaaDoorRMac
import Derived.Test.YtkdejiggblngkaaDoorAwake5
import Derived.Test.YtkdejiggblngkaaDoorEq
namespace Go.Proofs.YtkdejiggblngkaaDoor
open Go.RowKit

set_option maxRecDepth 100000 in
set_option maxHeartbeats 1000000 in
theorem rtag_any (M N : Nat) (v u : Value) (k p : List Int) (w : World) (hp : HoldsB w M v k) (hq : HoldsB w N u p) (hlen : k.length ≤ 140737488351232) (hlen2 : p.length ≤ 140737488351232) :
    Calls Tryd.prog 31 #[v, u] w fun r w' => r = .returned (.agg (kv .u8 (halfL (macL k p))).toArray) ∧ Below w.heap.size w w' := by
  have HP := Kp.mk hp
  have HQ := Kp.mk hq
  have HL := Kp.mk hlen
  have HL2 := Kp.mk hlen2
  clear hp hq hlen hlen2
  go_enter Tryd.func31, Tryd.ntmps31
  go_wp2_with fail
  refine calls_world (fun W => Row W w.heap.size 49 .u8 (fill 16 []) ∧ Below w.heap.size w W) ⟨Blk.newAt (w := w) z49 rfl, more (Below.refl _ _) z49⟩ ?_
  rintro w1 ⟨hr, hb⟩
  have HR := Kp.mk hr
  have HB := Kp.mk hb
  clear hr hb
  refine (rmac_any M N v u k p w1 (HP.out.keep HB.out) (HQ.out.keep HB.out) HL.out HL2.out).mono ?_
  rintro r w2 ⟨rfl, h2⟩
  have HR2 := Kp.mk (HR.out.keep h2)
  have HB2 : Kp (Below w.heap.size w w2) := ⟨HB.out.trans (h2.mono HB.out.size)⟩
  have HM := Kp.mk (macL_len k p)
  obtain ⟨d, hd⟩ : ∃ d, d = macL k p := ⟨_, rfl⟩
  rw [← hd] at HM ⊢
  have HD := Kp.mk hd
  clear h2 hd
  go_wp2_with fail
  refine (rhalf_any d w2 HM.out).mono ?_
  rintro r w3 ⟨rfl, h3⟩
  have HR3 := Kp.mk (HR2.out.keep h3)
  have HB3 : Kp (Below w.heap.size w w3) := ⟨HB2.out.trans (h3.mono HB2.out.size)⟩
  have HC := Kp.mk (cells49 (halfL_len HM.out))
  have HZ := Kp.mk (size50 (halfL_len HM.out))
  have HF := Kp.mk (HR3.out.setRow (halfL d))
  have HBf := Kp.mk (Below.row HB3.out (g := w.heap.size) (Nat.le_refl _) (kv .u8 (halfL d)).toArray)
  clear h3
  go_wp2_with (refine wpList_store_row rfl 49 (.tmp 4) (.tmp 8) rfl w.heap.size (kv .u8 (halfL d)).toArray rfl rfl 49 _ HR3.out HC.out HZ.out (kv_all _ _) ?_)
  refine bodyPost_ret (v := .agg (kv .u8 (halfL d)).toArray) ?_ rfl ⟨by rw [HD.out], HBf.out⟩
  exact results_cell_row rfl _ _ w.heap.size 49 _ (0, 0) _ rfl HF.out Tryd.underlying49 rfl HC.out
theorem eqIn50 {p : List Int} (hb : Bytes p) (h : p.length = 16) (w : World) : (Op.equalIn 10000 50 (.agg (kv .u8 p).toArray) (.agg (kv .u8 p).toArray)).run Tryd.prog w = .ok true w := by
  have := run_equalIn_bytes (P := Tryd.prog) w 9998 50 5 16 Tryd.underlying50 Tryd.underlying5 size5 (p.map fun n => UInt8.ofNat n.toNat) (p.map fun n => UInt8.ofNat n.toNat) (by simp [h]) (by simp [h])
  rw [bv_cells hb] at this
  simpa using this
theorem eql50 {p : List Int} (hb : Bytes p) (h : p.length = 16) (w : World) : (binOp .eql 50 (dgV p) (dgV p)).run Tryd.prog w = .ok (.bool true) w := by
  rw [run_eql_struct, eqIn50 hb h]; rfl
theorem eqg50 (p q : List Int) (x y : Operand) (w : World) : (eqGuard .eql 50 x y (dgV p) (dgV q)).run Tryd.prog w = .ok () w := by kernel_rfl
set_option maxRecDepth 100000 in
set_option maxHeartbeats 1000000 in
theorem macTags_walk (a0 : Option Addr) (len0 cap0 : Nat) (z0 : List Int) (a1 : Option Addr) (len1 cap1 : Nat) (z1 : List Int) (w : World) (w0 : HoldsB w w.heap.size (.slice a0 len0 cap0) z0) (g0 : len0 ≤ 140737488351232) (w1 : HoldsB w w.heap.size (.slice a1 len1 cap1) z1) (g1 : len1 ≤ 140737488351232) (hk : KonIs w) :
    Calls Tryd.prog 8 #[.slice a0 len0 cap0, .slice a1 len1 cap1] w fun e w' => e = .returned (.bool true) ∧ Below w.heap.size w w' := by
  have hl0 : z0.length ≤ 140737488351232 := by
    obtain ⟨a, n, c, e, hn⟩ := w0.slice
    simp only [Value.slice.injEq] at e
    omega
  have hl1 : z1.length ≤ 140737488351232 := by
    obtain ⟨a, n, c, e, hn⟩ := w1.slice
    simp only [Value.slice.injEq] at e
    omega
  have HK := Kp.mk hk
  have H0 := Kp.mk w0
  have H1 := Kp.mk w1
  have HL0 := Kp.mk hl0
  have HL1 := Kp.mk hl1
  have hq25 := fun w => eql25 (digest_bytes (over (keyb z0) 92 ++ digest (over (keyb z0) 54 ++ z1))) (digest_len _) w
  have hq50 := fun w => eql50 (p := halfL (macL z0 z1)) ((digest_bytes (over (keyb z0) 92 ++ digest (over (keyb z0) 54 ++ z1))).take 16) (halfL_len (macL_len _ _)) w
  have HQ25 : Kp (∀ w, (binOp .eql 25 (dgV (macL z0 z1)) (dgV (macL z0 z1))).run Tryd.prog w = .ok (.bool true) w) := ⟨hq25⟩
  have HQ50 := Kp.mk hq50
  clear hk w0 w1 hl0 hl1 hq25 hq50
  go_enter Tryd.func8, Tryd.ntmps8
  go_wp2_with fail
  refine (awake5 w HK.out).mono ?_
  rintro r wa ⟨rfl, h1⟩
  have B1 := Kp.mk h1
  clear h1
  go_wp2_with fail
  refine (mac_any _ _ _ _ z0 z1 wa (HK.out.keep B1.out) (H0.out.keep B1.out) (H1.out.keep B1.out) (by have := HL0.out; omega) (by have := HL1.out; omega)).mono ?_
  rintro r wb ⟨rfl, h2⟩
  have B2 : Kp (Below w.heap.size w wb) := ⟨B1.out.trans (h2.mono B1.out.size)⟩
  clear h2
  go_wp2_with fail
  refine (rmac_any _ _ _ _ z0 z1 wb (H0.out.keep B2.out) (H1.out.keep B2.out) HL0.out HL1.out).mono ?_
  rintro r wc ⟨rfl, h3⟩
  have B3 : Kp (Below w.heap.size w wc) := ⟨B2.out.trans (h3.mono B2.out.size)⟩
  clear h3
  obtain ⟨d, hd⟩ : ∃ d, d = macL z0 z1 := ⟨_, rfl⟩
  have HD := Kp.mk hd
  rw [← hd] at HQ25 HQ50 ⊢
  have hq := HQ25.out
  have hg := eqg25
  clear hd
  go_wp2_with fail
  clear hq hg
  refine (tag_any _ _ _ _ z0 z1 wc (HK.out.keep B3.out) (H0.out.keep B3.out) (H1.out.keep B3.out) (by have := HL0.out; omega) (by have := HL1.out; omega)).mono ?_
  rintro r wd ⟨rfl, h4⟩
  have B4 : Kp (Below w.heap.size w wd) := ⟨B3.out.trans (h4.mono B3.out.size)⟩
  clear h4
  rw [← HD.out]
  go_wp2_with fail
  refine (rtag_any _ _ _ _ z0 z1 wd (H0.out.keep B4.out) (H1.out.keep B4.out) HL0.out HL1.out).mono ?_
  rintro r we ⟨rfl, h5⟩
  have B5 : Kp (Below w.heap.size w we) := ⟨B4.out.trans (h5.mono B4.out.size)⟩
  clear h5
  rw [← HD.out]
  have hq := HQ50.out
  have hg := eqg50
  generalize halfL d = s at *
  go_wp2_with fail
  go_ret
  exact ⟨rfl, B5.out⟩
end Go.Proofs.YtkdejiggblngkaaDoor
