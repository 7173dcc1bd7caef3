/-
  The laws' awake: the standard's example.
-/
import Derived.Test.YtpljjmdkagbjpaaDoorAbc
namespace Go.Proofs.YtpljjmdkagbjpaaDoor
open Go.RowKit

set_option maxRecDepth 100000 in
theorem slice25_all (b : Nat) (w : World) : (Instr.sliceAt 95 (.pointer (some ⟨b, 0, none⟩)) none none none).run Tryd.prog w = .ok (.slice (some ⟨b, 0, none⟩) 32 32) w := by
  have hl : Tryd.prog.arrayLen 95 = 32 := by kernel_rfl
  have he : Tryd.prog.elem 95 = 5 := by kernel_rfl
  rw [run_sliceAt_array_all (ht := Tryd.underlying95), hl, he, size5]
  rfl
theorem digest_bytes (l : List Int) : Bytes (digest l) := bytes_bytes _
theorem HoldsB.ofBytes {w : World} {b : Nat} {l : List Int} {t : TypeId} (h : Row w b t .u8 l) (hb : Bytes l) (hm : l.length ≤ maxLen) : HoldsB w w.heap.size (.slice (some ⟨b, 0, none⟩) l.length l.length) l :=
  HoldsB.ofRow2 (off := 0) h rfl (Nat.le_refl _) hm (fun i hi => by simp [List.getElem?_eq_getElem hi, List.getD_eq_getElem?_getD]) hb
end Go.Proofs.YtpljjmdkagbjpaaDoor
