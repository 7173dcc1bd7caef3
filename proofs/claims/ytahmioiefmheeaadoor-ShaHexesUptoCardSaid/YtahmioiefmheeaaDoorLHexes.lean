/-
  The law ShaHexes, walked.
-/
import Derived.Test.YtahmioiefmheeaaDoorUnhexT
import Derived.Test.YtahmioiefmheeaaDoorAwake
import Derived.Test.YtahmioiefmheeaaDoorPartsU
namespace Go.Proofs.YtahmioiefmheeaaDoor
open Go.RowKit

theorem row_bytesU {H : Type} {enc : TypeId × Value → H} {W : World} {a : Option Addr} {len cap : Nat} {d : DataW H} {p : List MemPlace}
    (k : DataW.Trod enc Tryd.prog W 0 (fun _ => true) true 22 (.slice a len cap) d p) : ∃ z, HoldsB W W.heap.size (.slice a len cap) z ∧ z.length ≤ Rows.uptoBulk d := by
  obtain ⟨fuel, hf⟩ := k
  obtain ⟨a', len', cap', l, e, h, hl⟩ := trod_rowU hf
  rw [e]
  exact ⟨l, h, hl⟩
theorem text_small {x : ByteArray} {n : Nat} (h : x.data.toList.length + 1 ≤ n) : x.size ≤ n := by
  have e : x.data.toList.length = x.size := Array.length_toList
  omega
theorem hexU_cons (b : Int) (l : List Int) : hexU (b :: l) = hd (b / 16) :: hd (b % 16) :: hexU l := rfl
theorem hexU_even (l : List Int) : ∀ i, i < l.length → (hexU l).getD (2 * i) 0 = hd (l.getD i 0 / 16) ∧ (hexU l).getD (2 * i + 1) 0 = hd (l.getD i 0 % 16) := by
  induction l with
  | nil => intro i hi; simp at hi
  | cons b l ih =>
    intro i hi
    cases i with
    | zero => exact ⟨rfl, rfl⟩
    | succ i =>
      have h := ih i (by simpa using hi)
      rw [hexU_cons, show 2 * (i + 1) = 2 * i + 1 + 1 by omega]
      simpa using h
theorem digs_hex (l : List Int) (hb : Bytes l) (i : Nat) (hi : i < l.length) : digA (hexU l) i = l.getD i 0 / 16 ∧ digB (hexU l) i = l.getD i 0 % 16 := by
  have h := hexU_even l i hi
  have hx := hb.at hi
  unfold digA digB
  rw [h.1, h.2]
  exact ⟨dig_hd _ (by omega) (by omega), dig_hd _ (by omega) (by omega)⟩
theorem unhK_hex (l : List Int) (hb : Bytes l) : ∀ k, k ≤ l.length → unhK (hexU l) k = true := by
  intro k
  induction k with
  | zero => intro _; rfl
  | succ k ih =>
    intro hk
    have h := digs_hex l hb k (by omega)
    have hx := hb.at (i := k) (by omega)
    rw [unhK, ih (by omega), h.1, h.2]
    have h1 : 0 ≤ l.getD k 0 / 16 := by omega
    have h2 : 0 ≤ l.getD k 0 % 16 := by omega
    simp only [h1, h2, decide_true, Bool.and_self]
theorem unhI_hex (l : List Int) (hb : Bytes l) : unhI (hexU l) l.length = l := by
  apply List.ext_getElem
  · rw [unhI_len]
  intro i h1 h2
  have h := digs_hex l hb i h2
  have hx := hb.at h2
  have e1 : (unhI (hexU l) l.length)[i] = (16 * digA (hexU l) i + digB (hexU l) i) % 256 := by simp [unhI]
  rw [e1, h.1, h.2]
  rw [List.getD_eq_getElem?_getD, List.getElem?_eq_getElem h2] at hx ⊢
  simp only [Option.getD_some] at hx ⊢
  omega
theorem unh_hex (l : List Int) (hb : Bytes l) : unhE (hexU l) = 0 ∧ unhL (hexU l) = l := by
  have e : (hexU l).length / 2 = l.length := by rw [hexU_len]; omega
  have h := unhOk_all (hexU l) (by rw [hexU_len]; omega) (by rw [e]; exact unhK_hex l hb _ (Nat.le_refl _))
  rw [e, unhI_hex l hb] at h
  exact h
theorem hexI_str (l : List Int) : strOfNums (hexI l) = ⟨(hexU l).toArray⟩ := by
  unfold strOfNums
  congr 2
  induction l with
  | nil => rfl
  | cons b l ih =>
    have e : hexI (b :: l) = ((hd (b / 16)).toNat : Int) :: ((hd (b % 16)).toNat : Int) :: hexI l := rfl
    rw [e, hexU_cons, ← ih]
    simp
set_option maxRecDepth 100000 in
set_option maxHeartbeats 4000000 in
theorem shaHexes_walk (a0 : Option Addr) (len0 cap0 : Nat) (z0 : List Int) (x1 : ByteArray) (w : World) (w0 : HoldsB w w.heap.size (.slice a0 len0 cap0) z0) (g0 : z0.length ≤ 1048576) (g1 : x1.size ≤ 1048576) (hk : KonIs w) :
    Calls Tryd.prog 3 #[.slice a0 len0 cap0, .string x1] w fun e w' => e = .returned (.bool true) ∧ Below w.heap.size w w' := by
  obtain ⟨c, rfl⟩ : ∃ c : List UInt8, x1 = ⟨c.toArray⟩ := ⟨x1.data.toList, by cases x1; simp⟩
  have hc : c.length ≤ 1048576 := by simpa [ByteArray.size] using g1
  have HC := Kp.mk hc
  have HZ := Kp.mk w0
  have HG := Kp.mk g0
  have HK := Kp.mk hk
  have HU := Kp.mk (unh_hex z0 w0.bytes)
  have HS := Kp.mk (hexI_str z0)
  have CH : Kp (∀ w1, HoldsB w1 w.heap.size (.slice a0 len0 cap0) z0 → Calls Tryd.prog 20 #[.slice a0 len0 cap0] w1 fun r w' => r = .returned (.string ⟨(hexU z0).toArray⟩) ∧ Below w1.heap.size w1 w') := ⟨fun w1 h => hex_any _ _ z0 w1 h (by have := HG.out; omega)⟩
  have CR : Kp (∀ w1, HoldsB w1 w.heap.size (.slice a0 len0 cap0) z0 → Calls Tryd.prog 22 #[.slice a0 len0 cap0] w1 fun r w' => r = .returned (.string ⟨(hexU z0).toArray⟩) ∧ Below w1.heap.size w1 w') := ⟨fun w1 h => (rhex_any _ _ z0 w1 h (by have := HG.out; omega)).mono fun r w' ⟨h1, h2⟩ => ⟨by rw [h1, HS.out], h2⟩⟩
  have CU : Kp (∀ w1, Calls Tryd.prog 18 #[.string ⟨(hexU z0).toArray⟩] w1 fun r w' => ∃ v, r = .returned (.tuple #[v, .int .i64 0]) ∧ HoldsB w' w'.heap.size v z0 ∧ Below w1.heap.size w1 w') := ⟨fun w1 => by
    have h := unhex_any (hexU z0) w1 (by rw [hexU_len]; have := HG.out; omega)
    rw [HU.out.1, HU.out.2] at h
    exact h⟩
  have C1 : Kp (∀ w1, Calls Tryd.prog 18 #[.string ⟨c.toArray⟩] w1 fun r w' => ∃ v, r = .returned (.tuple #[v, .int .i64 (unhE c)]) ∧ HoldsB w' w'.heap.size v (unhL c) ∧ Below w1.heap.size w1 w') := ⟨fun w1 => unhex_any c w1 (by have := HC.out; omega)⟩
  have C2 : Kp (∀ w1, Calls Tryd.prog 19 #[.string ⟨c.toArray⟩] w1 fun r w' => ∃ v, r = .returned (.tuple #[v, .int .i64 (unhE c)]) ∧ HoldsB w' w'.heap.size v (unhL c) ∧ Below w1.heap.size w1 w') := ⟨fun w1 => runhex_any c w1 (by have := HC.out; omega)⟩
  clear hc w0 g0 g1 hk
  generalize ByteArray.mk c.toArray = s at *
  generalize ByteArray.mk (hexU z0).toArray = t at *
  generalize unhE c = ec at *
  generalize unhL c = lc at *
  clear HC HG HU HS
  go_enter Tryd.func3, Tryd.ntmps3
  go_wp2_with fail
  refine (C1.out w).mono ?_
  rintro r w1 ⟨v1, rfl, h1, h2⟩
  have F1 := Kp.mk h1
  have B1 := Kp.mk h2
  clear h1 h2
  go_wp2_with fail
  refine (C2.out w1).mono ?_
  rintro r w2 ⟨v2, rfl, h1, h2⟩
  have F2 := Kp.mk h1
  have F1' := Kp.mk (F1.out.keep h2)
  have B2 : Kp (Below w.heap.size w w2) := ⟨B1.out.trans (h2.mono B1.out.size)⟩
  clear h1 h2 F1 B1
  go_wp2_with fail
  refine (CH.out w2 (HZ.out.keep B2.out)).mono ?_
  rintro r w3 ⟨rfl, h2⟩
  have G1 := Kp.mk (F1'.out.keep h2)
  have G2 := Kp.mk (F2.out.keep h2)
  have B3 : Kp (Below w.heap.size w w3) := ⟨B2.out.trans (h2.mono B2.out.size)⟩
  clear h2 F1' F2 B2
  go_wp2_with fail
  refine (CU.out w3).mono ?_
  rintro r w4 ⟨v3, rfl, h1, h2⟩
  have J3 := Kp.mk h1
  have J1 := Kp.mk (G1.out.keep h2)
  have J2 := Kp.mk (G2.out.keep h2)
  have B4 : Kp (Below w.heap.size w w4) := ⟨B3.out.trans (h2.mono B3.out.size)⟩
  clear h1 h2 G1 G2 B3
  go_wp2_with fail
  refine (awake4 w4 (HK.out.keep B4.out)).mono ?_
  rintro r w5 ⟨rfl, h2⟩
  have L1 := Kp.mk (J1.out.keep h2)
  have L2 := Kp.mk (J2.out.keep h2)
  have L3 := Kp.mk (J3.out.keep h2)
  have B5 : Kp (Below w.heap.size w w5) := ⟨B4.out.trans (h2.mono B4.out.size)⟩
  clear h2 J1 J2 J3 B4
  go_wp2_with fail
  refine (CH.out w5 (HZ.out.keep B5.out)).mono ?_
  rintro r w6 ⟨rfl, h2⟩
  have M1 := Kp.mk (L1.out.keep h2)
  have M2 := Kp.mk (L2.out.keep h2)
  have M3 := Kp.mk (L3.out.keep h2)
  have B6 : Kp (Below w.heap.size w w6) := ⟨B5.out.trans (h2.mono B5.out.size)⟩
  clear h2 L1 L2 L3 B5
  go_wp2_with fail
  refine (CR.out w6 (HZ.out.keep B6.out)).mono ?_
  rintro r w7 ⟨rfl, h2⟩
  have t1 := (M1.out.keep h2).text
  have t2 := (M2.out.keep h2).text
  have t3 := (M3.out.keep h2).text
  have B7 : Kp (Below w.heap.size w w7) := ⟨B6.out.trans (h2.mono B6.out.size)⟩
  have t4 := (HZ.out.keep B7.out).text
  clear h2 M1 M2 M3 B6
  generalize strOfNums lc = sc at *
  generalize strOfNums z0 = sz at *
  go_wp2_with fail
  go_ret
  exact ⟨rfl, B7.out⟩
end Go.Proofs.YtahmioiefmheeaaDoor
