/-
  The walk of the law FieldLays.
-/
import Derived.Test.YtgpjffchpppceaaLaid
import Derived.Test.YtgpjffchpppceaaTakesW
namespace Go.Proofs.Ytgpjffchpppceaa
open Go.RowKit

set_option maxRecDepth 100000 in
set_option maxHeartbeats 6400000 in
theorem fieldLays_walk (a0 : Option Addr) (len0 cap0 : Nat) (C : Nat → List Value) (w : World) (hC : IsFull w a0 len0 C) :
    Calls Try.prog 3 #[.slice a0 len0 cap0] w fun r w' => r = .returned (.bool true) ∧ Below w.heap.size w w' := by
  have HC := Lib.hid hC
  clear hC
  go_enter Try.func3, Try.ntmps3
  go_wp2_with fail
  refine (awake_any _).mono ?_
  rintro r w1 ⟨rfl, hb⟩
  have B1 := Lib.hid hb
  clear hb
  go_wp2_with fail
  refine (fits_any a0 len0 cap0 C w1 (HC.out.keep B1.out)).mono ?_
  rintro r w2 ⟨hr, hb⟩
  have BK := Lib.hid hb
  have B2 : Hid (Below w.heap.size w w2) := B1.out.trans (hb.mono B1.out.size)
  clear hb
  rcases hr with rfl | ⟨rfl, h60, hall⟩
  · go_wp2_with fail
    refine (awake_any _).mono ?_
    rintro r w3 ⟨rfl, hb⟩
    have B3 : Hid (Below w.heap.size w w3) := B2.out.trans (hb.mono B2.out.size)
    clear hb
    go_wp2_with fail
    go_ret
    exact ⟨rfl, B3.out⟩
  · obtain ⟨D, hD⟩ := full_items hall
    have HD := Lib.hid hD
    clear hD hall
    go_wp2_with fail
    refine (laid_any a0 len0 cap0 C D w2 (HC.out.keep B2.out) h60 (fun i hi => ⟨(HD.out i hi).1.keep BK.out, (HD.out i hi).2⟩)).mono ?_
    rintro r w3 ⟨O, K, vm, f, vr, lP, lD, rfl, hO, hK, hS⟩
    have hlP := hS.lenP
    obtain ⟨am, nm, cm, rfl, -⟩ := hS.ref.slice
    have HB3 : Hid (Below w3.heap.size w3 (w3.alloc (.cells #[.slice am nm cm, .bool f] 28))) := more (Below.refl _ _) _
    have G3 := Lib.hid (Blk.new w3 (.cells #[.slice am nm cm, .bool f] 28))
    have S3 := Lib.hid (hS.keep HB3.out)
    have B3 : Hid (Below w.heap.size w (w3.alloc (.cells #[.slice am nm cm, .bool f] 28))) := B2.out.trans (S3.out.below.mono B2.out.size)
    clear hS
    go_wp2_with fail
    generalize w3.heap.size = X at G3 ⊢
    generalize w3.alloc (.cells #[.slice am nm cm, .bool f] 28) = W3 at *
    refine (bytes_any O vr lP f W3 S3.out.out (by omega)).mono ?_
    rintro r w4 ⟨vb, rfl, hrow, hb⟩
    have R4 := Lib.hid hrow
    have B4 := Lib.hid hb
    have G4 := Lib.hid (G3.out.keep hb)
    obtain ⟨ab, nb, cb, rfl⟩ := row_shape hrow
    obtain ⟨c0, c1, f0, f1⟩ := G4.out.two
    obtain ⟨E8, hE8⟩ : ∃ E8, E8 = (if f then (8 : Int) else 0) := ⟨_, rfl⟩
    have hE8b : 0 ≤ E8 ∧ E8 ≤ 8 := by rw [hE8]; split <;> omega
    rw [← hE8]
    have HE8 := Lib.hid hE8
    clear hrow hb hE8
    go_wp2_with fail
    refine (rbytes_any w4.heap.size (.slice am nm cm) lD f w4 ((S3.out.ref.keep B4.out).mono B4.out.size)).mono ?_
    rintro r w5 ⟨rfl, hb⟩
    have B5 := Lib.hid hb
    clear hb c0 c1 f0 f1
    obtain ⟨vc, hvc⟩ : ∃ vc, vc = (if f then Value.slice none 0 0 else Value.slice am nm cm) := ⟨_, rfl⟩
    obtain ⟨Z, hZ⟩ : ∃ Z, Z = (if f then [] else lP) := ⟨_, rfl⟩
    have HZC : Hid (HoldsB W3 W3.heap.size vc Z) := by
      rw [hvc, hZ]
      cases hf : f with
      | true => exact HoldsB.nil _ _
      | false =>
        have k := S3.out.same hf
        have k2 := S3.out.ref
        rw [k.2, ← k.1] at k2
        exact k2
    rw [← hvc]
    rw [← hZ] at R4
    have HZE := Lib.hid hZ
    obtain ⟨ac, nc, cc, rfl, -⟩ := HZC.out.slice
    have HZL : Hid (Z.length ≤ 1000000) := by
      have h1 : Z.length ≤ lP.length := by rw [hZ]; split <;> simp
      show _ ≤ _
      omega
    have HZD : Hid (Bytes Z) := HZC.out.bytes
    rw [← HE8.out]
    have HBB : Hid (HoldsB w4 w4.heap.size (.slice ab nb cb) Z) := HoldsB.ofRow HZD.out R4.out
    have tb := (HBB.out.keep B5.out).text
    have tc := ((HZC.out.keep B4.out).keep B5.out).text
    clear hvc hlP
    generalize strOfNums Z = sz at tb tc
    have hnb : nb = Z.length := by
      obtain ⟨_, n1, _, h1, h2⟩ := HBB.out.slice
      simp only [Value.slice.injEq] at h1
      omega
    have HNB := Lib.hid hnb
    have hnm : nb ≤ 1000000 := by have := HZL.out; omega
    clear hnb
    go_wp2_with fail
    go_loopw [48] (fun c wr => ∃ (i : Nat) (ys : List Int), i ≤ nb ∧ c = .int .i64 i ∧ ys.length = nb ∧ wr.ownsRow W3.heap.size 5 1 (.slice ab nb cb) nb (bv ys) ∧ Below W3.heap.size W3 wr) (fun c _ => nb - (intOf c).toNat)
    case atStart =>
      have k := ownsRow_below R4.out B5.out
      rw [← HNB.out] at k
      exact ⟨0, Z, by omega, rfl, HNB.out.symm, k, B4.out.trans (B5.out.mono B4.out.size)⟩
    case round =>
      obtain ⟨i, ys, hi', rfl, hys, hrow, hbel⟩ := hrel
      have HROW := Lib.hid hrow
      have HBEL := Lib.hid hbel
      by_cases hlt : i < nb
      · obtain ⟨g, cap, hV, hb, hg⟩ := row_form hrow (by omega)
        simp only [Value.slice.injEq] at hV
        obtain ⟨rfl, -, rfl⟩ := hV
        have hc : wr.cell? ⟨g, i, none⟩ = some (.int .u8 (ys.getD i 0)) := (hrow.cellAt i (by omega)).trans (bv_getD (by omega))
        have hfz := hrow.frozenAt i
        have HB := Lib.hid hb
        clear hrow hbel hb tb tc
        generalize ys.getD i 0 = y at hc
        go_wp2_with fail
        have hblk : ∃ cur, Blk wr g (.cells cur 5 (0, 0)) := by
          rcases HROW.out.2 with ⟨h1, _⟩ | ⟨g', cap', cur, h1, hb, hheap, _⟩
          · simp at h1
          · simp only [Value.slice.injEq, Option.some.injEq, Addr.mk.injEq, and_true, true_and] at h1
            obtain ⟨rfl, rfl⟩ := h1
            exact ⟨cur, hheap⟩
        obtain ⟨cur, hblk⟩ := hblk
        refine ⟨⟨i + 1, ys.set i _, by omega, by go_num, by rw [List.length_set]; exact hys, bytes_turn HROW.out i _, HBEL.out.trans (((Turn.same hblk).set i _).below HB.out HBEL.out.size)⟩, by simp [intOf]; omega⟩
      · have SW := Lib.hid (S3.out.out.keep HBEL.out)
        have ZW := Lib.hid (HZC.out.keep HBEL.out)
        clear hrow hbel tb tc
        go_wp2_with fail
        refine (bytes_any O vr lP f wr SW.out (by have := S3.out.lenP; omega)).mono ?_
        rintro r w7 ⟨vd, rfl, hrow, hb⟩
        rw [← HE8.out]
        have HF := Lib.hid hb
        obtain ⟨ad, nd, cd, rfl⟩ := row_shape hrow
        have hZ2 : (if f = true then [] else lP) = Z := HZE.out.symm
        rw [hZ2] at hrow
        have td := (HoldsB.ofRow HZD.out hrow).text
        have tc2 := (ZW.out.keep hb).text
        clear hrow hb hZ2
        generalize strOfNums Z = sz at td tc2
        go_wp2_with fail
        go_ret
        exact ⟨rfl, B3.out.trans ((HBEL.out.trans (HF.out.mono HBEL.out.size)).mono (by have := S3.out.below.size; have := B2.out.size; omega))⟩
end Go.Proofs.Ytgpjffchpppceaa
