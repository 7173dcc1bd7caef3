/-
  The document's Tag; the law MacTags, walked.
-/
import Derived.Test.YtahmioiefmheeaaDoorRMac
import Derived.Test.YtahmioiefmheeaaDoorAwake5
import Derived.Test.YtahmioiefmheeaaDoorEq
namespace Go.Proofs.YtahmioiefmheeaaDoor
open Go.RowKit

set_option maxRecDepth 100000 in
set_option maxHeartbeats 1000000 in
theorem rtag_any (M N : Nat) (v u : Value) (k p : List Int) (w : World) (hp : HoldsB w M v k) (hq : HoldsB w N u p) (hlen : k.length ≤ 140737488351232) (hlen2 : p.length ≤ 140737488351300) :
    Calls Tryd.prog 93 #[v, u] w fun r w' => r = .returned (.agg (kv .u8 (halfL (macL k p))).toArray) ∧ Below w.heap.size w w' := by
  have HP := Kp.mk hp
  have HQ := Kp.mk hq
  have HL := Kp.mk hlen
  have HL2 := Kp.mk hlen2
  clear hp hq hlen hlen2
  go_enter Tryd.func93, Tryd.ntmps93
  go_wp2_with fail
  refine calls_world (fun W => Row W w.heap.size 32 .u8 (fill 16 []) ∧ Below w.heap.size w W) ⟨Blk.newAt (w := w) z49 rfl, more (Below.refl _ _) z49⟩ ?_
  rintro w1 ⟨hr, hb⟩
  have HR := Kp.mk hr
  have HB := Kp.mk hb
  clear hr hb
  refine (rmac_any M N v u k p w1 (HP.out.keep HB.out) (HQ.out.keep HB.out) HL.out HL2.out).mono ?_
  rintro r w2 ⟨rfl, h2⟩
  have HR2 := Kp.mk (HR.out.keep h2)
  have HB2 : Kp (Below w.heap.size w w2) := ⟨HB.out.trans (h2.mono HB.out.size)⟩
  have HM := Kp.mk (macL_len k p)
  obtain ⟨d, hd⟩ : ∃ d, d = macL k p := ⟨_, rfl⟩
  rw [← hd] at HM ⊢
  have HD := Kp.mk hd
  clear h2 hd
  go_wp2_with fail
  refine (rhalf_any d w2 HM.out).mono ?_
  rintro r w3 ⟨rfl, h3⟩
  have HR3 := Kp.mk (HR2.out.keep h3)
  have HB3 : Kp (Below w.heap.size w w3) := ⟨HB2.out.trans (h3.mono HB2.out.size)⟩
  have HC := Kp.mk (cells49 (halfL_len HM.out))
  have HZ := Kp.mk (size50 (halfL_len HM.out))
  have HF := Kp.mk (HR3.out.setRow (halfL d))
  have HBf := Kp.mk (Below.row HB3.out (g := w.heap.size) (Nat.le_refl _) (kv .u8 (halfL d)).toArray)
  clear h3
  go_wp2_with (refine wpList_store_row rfl 32 (.tmp 4) (.tmp 8) rfl w.heap.size (kv .u8 (halfL d)).toArray rfl rfl 32 _ HR3.out HC.out HZ.out (kv_all _ _) ?_)
  refine bodyPost_ret (v := .agg (kv .u8 (halfL d)).toArray) ?_ rfl ⟨by rw [HD.out], HBf.out⟩
  exact results_cell_row rfl _ _ w.heap.size 32 _ (0, 0) _ rfl HF.out Tryd.underlying32 rfl HC.out
theorem eqIn50 {p : List Int} (hb : Bytes p) (h : p.length = 16) (w : World) : (Op.equalIn 10000 33 (.agg (kv .u8 p).toArray) (.agg (kv .u8 p).toArray)).run Tryd.prog w = .ok true w := by
  have := run_equalIn_bytes (P := Tryd.prog) w 9998 33 5 16 Tryd.underlying33 Tryd.underlying5 size5 (p.map fun n => UInt8.ofNat n.toNat) (p.map fun n => UInt8.ofNat n.toNat) (by simp [h]) (by simp [h])
  rw [bv_cells hb] at this
  simpa using this
theorem eql50 {p : List Int} (hb : Bytes p) (h : p.length = 16) (w : World) : (binOp .eql 33 (dgV p) (dgV p)).run Tryd.prog w = .ok (.bool true) w := by
  rw [run_eql_struct, eqIn50 hb h]; rfl
theorem eqg50 (p q : List Int) (x y : Operand) (w : World) : (eqGuard .eql 33 x y (dgV p) (dgV q)).run Tryd.prog w = .ok () w := by kernel_rfl
end Go.Proofs.YtahmioiefmheeaaDoor
