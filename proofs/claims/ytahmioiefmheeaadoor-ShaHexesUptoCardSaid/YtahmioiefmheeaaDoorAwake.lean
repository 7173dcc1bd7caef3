/-
  The laws' awake: the standard's example.
-/
import Derived.Test.YtahmioiefmheeaaDoorAbc
import Derived.Lib.SlBytesConst
namespace Go.Proofs.YtahmioiefmheeaaDoor
open Go.RowKit

set_option maxRecDepth 100000 in
theorem slice25_all (b : Nat) (w : World) : (Instr.sliceAt 118 (.pointer (some ⟨b, 0, none⟩)) none none none).run Tryd.prog w = .ok (.slice (some ⟨b, 0, none⟩) 32 32) w := by
  have hl : Tryd.prog.arrayLen 118 = 32 := by kernel_rfl
  have he : Tryd.prog.elem 118 = 5 := by kernel_rfl
  rw [run_sliceAt_array_all (ht := Tryd.underlying118), hl, he, size5]
  rfl
theorem digest_bytes (l : List Int) : Bytes (digest l) := bytes_bytes _
theorem HoldsB.ofBytes {w : World} {b : Nat} {l : List Int} {t : TypeId} (h : Row w b t .u8 l) (hb : Bytes l) (hm : l.length ≤ maxLen) : HoldsB w w.heap.size (.slice (some ⟨b, 0, none⟩) l.length l.length) l :=
  HoldsB.ofRow2 (off := 0) h rfl (Nat.le_refl _) hm (fun i hi => by simp [List.getElem?_eq_getElem hi, List.getD_eq_getElem?_getD]) hb
set_option maxRecDepth 100000 in
set_option maxHeartbeats 1000000 in
theorem awake4 (w : World) (hk : KonIs w) : Calls Tryd.prog 21 #[] w fun r w' => r = .returned (.bool true) ∧ Below w.heap.size w w' := by
  have HK := Kp.mk hk
  have hcv := fun (w : World) (C : Array Value) (n c : Nat) => Lib.run_convert_bytes_const (P := Tryd.prog) w 22 5 C n c Tryd.underlying22 Tryd.underlying5
  clear hk
  go_enter Tryd.func21, Tryd.ntmps21
  go_wp2_with fail
  clear hcv
  refine calls_world (fun W => HoldsB W W.heap.size (.slice (some ⟨w.heap.size, 0, none⟩) 3 3) [97, 98, 99] ∧ Below w.heap.size w W) ⟨HoldsB.ofRow2 (off := 0) (l := [97, 98, 99]) (Blk.newAt (w := w) _ rfl) rfl (by decide) (by decide) (fun i hi => match i, hi with | 0, _ => rfl | 1, _ => rfl | 2, _ => rfl | i + 3, hi => absurd hi (by simp)) (by intro x hx; simp at hx; omega), more (Below.refl _ _) _⟩ ?_
  rintro w1 ⟨h1, h2⟩
  have H2 := Kp.mk h2
  refine (sum_any _ _ [97, 98, 99] w1 (HK.out.keep h2) h1 (by decide)).mono ?_
  rintro r w2 ⟨rfl, h3⟩
  have H3 : Kp (Below w.heap.size w w2) := ⟨h2.trans (h3.mono h2.size)⟩
  have HC25 := Kp.mk (cells25 (digest_len [97, 98, 99]))
  have HZ25 : Kp ((kv .u8 (fill 32 [])).toArray.size = (kv .u8 (digest [97, 98, 99])).toArray.size) := ⟨by rw [kv_size, kv_size, digest_len]; rfl⟩
  have hs := slice25_all
  have HR : Kp (Row ((w2.alloc z25).setRow w2.heap.size (kv .u8 (digest [97, 98, 99])).toArray) w2.heap.size 118 .u8 (digest [97, 98, 99])) := ⟨Row.setRow (k := .u8) (l := fill 32 []) (Blk.new w2 z25) _⟩
  have HL := Kp.mk (digest_len [97, 98, 99])
  have HY := Kp.mk (digest_bytes [97, 98, 99])
  have HX := Kp.mk abc_hex
  clear h1 h2 h3
  generalize digest [97, 98, 99] = d at *
  go_wp2_with (refine wpList_store_row rfl 118 (.tmp 1) (.tmp 4) rfl w2.heap.size (kv .u8 d).toArray rfl rfl 118 _ (Blk.new w2 z25) HC25.out HZ25.out (kv_all _ _) ?_)
  have HH : Kp (HoldsB ((w2.alloc z25).setRow w2.heap.size (kv .u8 d).toArray) ((w2.alloc z25).setRow w2.heap.size (kv .u8 d).toArray).heap.size (.slice (some ⟨w2.heap.size, 0, none⟩) 32 32) d) := ⟨by
    have h := HoldsB.ofBytes HR.out HY.out (by rw [HL.out]; decide)
    rw [HL.out] at h
    exact h⟩
  have HB : Kp (Below w.heap.size w ((w2.alloc z25).setRow w2.heap.size (kv .u8 d).toArray)) := ⟨Below.row (more H3.out z25) H3.out.size _⟩
  refine (hex_any _ _ d _ HH.out (by rw [HL.out]; decide)).mono ?_
  rintro r w4 ⟨rfl, h4⟩
  have H4 : Kp (Below w.heap.size w w4) := ⟨HB.out.trans (h4.mono HB.out.size)⟩
  rw [HX.out]
  clear h4 hs
  go_wp2_with fail
  go_ret
  exact ⟨rfl, H4.out⟩
end Go.Proofs.YtahmioiefmheeaaDoor
