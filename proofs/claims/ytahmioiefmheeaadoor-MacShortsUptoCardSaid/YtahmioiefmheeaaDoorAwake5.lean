/-
  The laws' awake of layer 5.
-/
import Derived.Test.YtahmioiefmheeaaDoorCost
import Derived.Test.YtahmioiefmheeaaDoorJefe
namespace Go.Proofs.YtahmioiefmheeaaDoor
open Go.RowKit

set_option maxRecDepth 100000 in
theorem slice25_four (b : Nat) (w : World) : (Instr.sliceAt 118 (.pointer (some ⟨b, 0, none⟩)) none (some (.int .i64 4)) none).run Tryd.prog w = .ok (.slice (some ⟨b, 0, none⟩) 4 32) w := by
  have hl : Tryd.prog.arrayLen 118 = 32 := by kernel_rfl
  have he : Tryd.prog.elem 118 = 5 := by kernel_rfl
  rw [run_sliceAt_array_h (ht := Tryd.underlying118) (h0 := by omega) (h2 := by rw [hl]; omega), hl, he, size5]
  rfl
set_option maxRecDepth 100000 in
set_option maxHeartbeats 1000000 in
theorem awake5 (w : World) (hk : KonIs w) : Calls Tryd.prog 23 #[] w fun r w' => r = .returned (.bool true) ∧ Below w.heap.size w w' := by
  have HK := Kp.mk hk
  have hcv := fun (w : World) (C : Array Value) (n c : Nat) => Lib.run_convert_bytes_const (P := Tryd.prog) w 22 5 C n c Tryd.underlying22 Tryd.underlying5
  have hcv2 : ∀ (w : World) (O : Obj) (C : Array Value) (n c : Nat), (convert 22 22 (.slice (some ⟨w.heap.size + 1, 0, none⟩) n c)).run Tryd.prog ((w.alloc O).alloc (.cells C 5)) = .ok (.slice (some ⟨w.heap.size + 1, 0, none⟩) n c) ((w.alloc O).alloc (.cells C 5 (C.size, C.size + 1))) := fun w O C n c => by
    have h := hcv (w.alloc O) C n c
    rw [World.size_alloc] at h
    exact h
  clear hk
  go_enter Tryd.func23, Tryd.ntmps23
  go_wp2_with fail
  clear hcv hcv2
  refine calls_world (fun W => HoldsB W W.heap.size (.slice (some ⟨w.heap.size, 0, none⟩) 4 4) jefe ∧ HoldsB W W.heap.size (.slice (some ⟨w.heap.size + 1, 0, none⟩) 28 28) want ∧ Below w.heap.size w W)
    ⟨HoldsB.ofRow2 (off := 0) (l := jefe) (Blk.old (Blk.newAt (w := w) _ rfl) _) rfl (by decide) (by decide) (fun i hi => match i, hi with | 0, _ => rfl | 1, _ => rfl | 2, _ => rfl | 3, _ => rfl | i + 4, hi => absurd hi (by simp [jefe])) (by intro x hx; simp [jefe] at hx; omega),
      HoldsB.ofRow2 (off := 0) (l := want) (Blk.newAt (w := w.alloc _) _ (by simp)) rfl (by decide) (by decide) (fun i hi => by
        have hi : i < 28 := hi
        match i, hi with
        | 0, _ | 1, _ | 2, _ | 3, _ | 4, _ | 5, _ | 6, _ | 7, _ | 8, _ | 9, _ | 10, _ | 11, _ | 12, _ | 13, _ | 14, _ | 15, _ | 16, _ | 17, _ | 18, _ | 19, _ | 20, _ | 21, _ | 22, _ | 23, _ | 24, _ | 25, _ | 26, _ | 27, _ => rfl
        | i + 28, hi => omega) (by intro x hx; simp [want] at hx; omega),
      more (more (Below.refl _ _) _) _⟩ ?_
  rintro w1 ⟨h1, h1b, h2⟩
  have H2 := Kp.mk h2
  refine (mac_any _ _ _ _ jefe want w1 (HK.out.keep h2) h1 h1b (by decide) (by decide)).mono ?_
  rintro r w2 ⟨rfl, h3⟩
  have H3 : Kp (Below w.heap.size w w2) := ⟨h2.trans (h3.mono h2.size)⟩
  have HX := Kp.mk jefe_hex
  have HL : Kp ((macL jefe want).length = 32) := ⟨digest_len _⟩
  have HY : Kp (Bytes (macL jefe want)) := ⟨digest_bytes _⟩
  clear h1 h1b h2 h3
  generalize macL jefe want = d at *
  have HC25 := Kp.mk (cells25 HL.out)
  have HZ25 : Kp ((kv .u8 (fill 32 [])).toArray.size = (kv .u8 d).toArray.size) := ⟨by rw [kv_size, kv_size, HL.out]; rfl⟩
  obtain ⟨W, hW⟩ : ∃ W, W = (w2.alloc z25).setRow w2.heap.size (kv .u8 d).toArray := ⟨_, rfl⟩
  have HR : Kp (Row W w2.heap.size 118 .u8 d) := ⟨by rw [hW]; exact Row.setRow (k := .u8) (l := fill 32 []) (Blk.new w2 z25) _⟩
  have HB : Kp (Below w.heap.size w W) := ⟨by rw [hW]; exact Below.row (more H3.out z25) H3.out.size _⟩
  have hs := slice25_four
  go_wp2_with (refine wpList_store_row rfl 118 (.tmp 1) (.tmp 6) rfl w2.heap.size (kv .u8 d).toArray rfl rfl 118 _ (Blk.new w2 z25) HC25.out HZ25.out (kv_all _ _) ?_; refine wpl_world (· = W) hW.symm ?_; clear hW; intro W0 e; rw [e]; clear e)
  have HH : Kp (HoldsB W W.heap.size (.slice (some ⟨w2.heap.size, 0, none⟩) 4 32) (d.take 4)) := ⟨by
    refine HoldsB.ofRow2 (off := 0) HR.out (by rw [List.length_take, HL.out]; rfl) (by omega) (by decide) (fun i hi => ?_) (HY.out.take 4)
    have hi2 : i < 4 := by rw [List.length_take] at hi; omega
    have hi3 : i < d.length := by rw [HL.out]; omega
    simp [List.getElem?_eq_getElem hi3, List.getD_eq_getElem?_getD, hi2]⟩
  refine (hex_any _ _ (d.take 4) _ HH.out (by rw [List.length_take]; omega)).mono ?_
  rintro r w4 ⟨rfl, h4⟩
  have H4 : Kp (Below w.heap.size w w4) := ⟨HB.out.trans (h4.mono HB.out.size)⟩
  rw [HX.out]
  clear h4 hs
  go_wp2_with fail
  refine (cost_any 32 100 _ (by omega) (by omega) (by omega) (by omega)).mono ?_
  rintro r w5 ⟨rfl, rfl⟩
  rw [show costI 32 100 = 5 from by decide]
  go_wp2_with fail
  go_ret
  exact ⟨rfl, H4.out⟩
end Go.Proofs.YtahmioiefmheeaaDoor
