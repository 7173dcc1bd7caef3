/-
  sha.Unhex.
-/
import Derived.Test.YtahmioiefmheeaaDoorUnhM
namespace Go.Proofs.YtahmioiefmheeaaDoor
open Go.RowKit

abbrev hexsS : ByteArray := ⟨#[48, 49, 50, 51, 52, 53, 54, 55, 56, 57, 97, 98, 99, 100, 101, 102]⟩
theorem index_dig (x : UInt8) (w : World) : Calls Tryd.prog 76 #[.string hexsS, .int .u8 x.toNat] w fun e w' => e = .returned (.int .i64 (dig x 16)) ∧ w' = w := by
  refine (Tryd.strings_IndexByte hexsS x.toNat w).mono ?_
  rintro e w' ⟨rfl, rfl⟩
  refine ⟨?_, rfl⟩
  rw [← dig_index]
  simp
def rowU (c : List UInt8) (m k : Nat) : List Int := unhI c k ++ List.replicate (m - k) 0
theorem rowU_len (c : List UInt8) {m k : Nat} (h : k ≤ m) : (rowU c m k).length = m := by
  unfold rowU
  rw [List.length_append, unhI_len, List.length_replicate]
  omega
theorem rowU_step (c : List UInt8) {m k : Nat} (h : k < m) : (rowU c m k).set k ((16 * digA c k + digB c k) % 256) = rowU c m (k + 1) := by
  unfold rowU
  rw [unhI_snoc, List.set_append, if_neg (by rw [unhI_len]; omega), unhI_len, Nat.sub_self, show m - k = (m - (k + 1)) + 1 by omega, List.replicate_succ, List.set_cons_zero, List.append_assoc, List.singleton_append]
theorem rowU_all (c : List UInt8) (m : Nat) : rowU c m m = unhI c m := by
  unfold rowU
  rw [Nat.sub_self, List.replicate_zero, List.append_nil]
theorem rowU_none (c : List UInt8) (m : Nat) : rowU c m 0 = List.replicate m 0 := by
  simp [rowU, unhI]
theorem row_at {l : List Int} {i : Nat} (hi : i < l.length) : (kv .u8 l).toArray[i]? = some (.int .u8 (l.getD i 0)) := by
  rw [List.getD_eq_getElem?_getD, List.getElem?_eq_getElem hi]
  simp [kv, hi]
theorem or16 (a b : Int) (h : 0 ≤ a ∧ a < 16) (h2 : 0 ≤ b ∧ b < 16) : bits .or .i64 (a * 16) b = 16 * a + b := by
  have key : ∀ x y : Fin 16, bits .or .i64 ((x.val : Int) * 16) (y.val : Int) = 16 * (x.val : Int) + y.val := by decide +kernel
  have h := key ⟨a.toNat, by omega⟩ ⟨b.toNat, by omega⟩
  rw [show ((a.toNat : Nat) : Int) = a by omega, show ((b.toNat : Nat) : Int) = b by omega] at h
  exact h
set_option maxRecDepth 100000 in
set_option maxHeartbeats 4000000 in
theorem unhex_any (c : List UInt8) (w : World) (hl : c.length ≤ 70368744177664) :
    Calls Tryd.prog 18 #[.string ⟨c.toArray⟩] w fun r w' => ∃ v, r = .returned (.tuple #[v, .int .i64 (unhE c)]) ∧ HoldsB w' w'.heap.size v (unhL c) ∧ Below w.heap.size w w' := by
  obtain ⟨s, hs⟩ : ∃ s, s = ByteArray.mk c.toArray := ⟨_, rfl⟩
  have hsz : s.size = c.length := by rw [hs]; simp [ByteArray.size]
  have HI : Kp (∀ j, j < c.length → ∀ w, (Instr.index 9 (.string s) (.int .i64 ((j : Nat) : Int))).run Tryd.prog w = .ok (.int .u8 (c.getD j 0).toNat) w) := ⟨fun j hj w => by rw [hs]; exact idxS c j hj w⟩
  rw [← hs]
  clear hs
  obtain ⟨A, hA⟩ : ∃ A, A = w.heap.size := ⟨_, rfl⟩
  have HA := Kp.mk hA
  obtain ⟨n, hn⟩ : ∃ n, n = c.length := ⟨_, rfl⟩
  have HN := Kp.mk hn
  rw [← hn] at hsz hl
  by_cases he : n % 2 = 0
  · obtain ⟨m, hm⟩ : ∃ m, m = n / 2 := ⟨_, rfl⟩
    have HM : Kp (n = 2 * m) := ⟨by omega⟩
    have hm' : m ≤ 70368744177664 := by omega
    have ht : (n : Int).tmod 2 = 0 := by rw [Int.tmod_eq_emod_of_nonneg (by omega)]; omega
    have hq : (n : Int).tdiv 2 = (m : Int) := by rw [Int.tdiv_eq_ediv_of_nonneg (by omega)]; omega
    have hmk := make22n m hm'
    clear hn he hm
    go_enter Tryd.func18, Tryd.ntmps18
    go_wp2_with fail
    rw [← hA]
    go_loopw [18] (fun c18 wr => ∃ k : Nat, k ≤ m ∧ c18 = .int .i64 k ∧ Kp (unhK c k = true) ∧ Kp (Row wr A 5 .u8 (rowU c m k)) ∧ Kp (Below A w wr)) (fun c _ => m - (intOf c).toNat)
    case atStart => exact ⟨0, by omega, rfl, ⟨rfl⟩, ⟨by rw [rowU_none]; have h := Blk.newAt (w := w) (.cells (Array.replicate m (.int .u8 0)) 5) hA; unfold Row; rw [show (kv .u8 (List.replicate m 0)).toArray = Array.replicate m (Value.int .u8 0) by simp [kv]]; exact h⟩, ⟨by rw [hA]; exact more (Below.refl _ _) _⟩⟩
    case round =>
      obtain ⟨k, hk, rfl, G0, G1, G2⟩ := hrel
      clear hA hmk ht hq
      by_cases hlt : k < m
      · have i1 : ∀ w, (Instr.index 9 (.string s) (.int .i64 (2 * (k : Int)))).run Tryd.prog w = .ok (.int .u8 (c.getD (2 * k) 0).toNat) w := fun w => HI.out (2 * k) (by have := HN.out; have := HM.out; omega) w
        have i2 : ∀ w, (Instr.index 9 (.string s) (.int .i64 (2 * (k : Int) + 1))).run Tryd.prog w = .ok (.int .u8 (c.getD (2 * k + 1) 0).toNat) w := fun w => HI.out (2 * k + 1) (by have := HN.out; have := HM.out; omega) w
        obtain ⟨x, hx⟩ : ∃ x, x = c.getD (2 * k) 0 := ⟨_, rfl⟩
        obtain ⟨y, hy⟩ : ∃ y, y = c.getD (2 * k + 1) 0 := ⟨_, rfl⟩
        rw [← hx] at i1
        rw [← hy] at i2
        have HA1 : Kp (dig x 16 = digA c k) := ⟨by rw [hx]; rfl⟩
        have HB1 : Kp (dig y 16 = digB c k) := ⟨by rw [hy]; rfl⟩
        have hcell := G1.out.cell (i := k) (by rw [rowU_len c hk]; exact hlt)
        have hfr := G1.out.frozen k
        have hlt' : (k : Int) < (m : Int) := by omega
        clear hx hy
        go_wp2_with fail
        refine (index_dig x _).mono ?_
        rintro r w1 ⟨rfl, rfl⟩
        go_wp2_with fail
        refine (index_dig y _).mono ?_
        rintro r w1 ⟨rfl, rfl⟩
        have hda := dig_le x 16 (Nat.le_refl _)
        have hdb := dig_le y 16 (Nat.le_refl _)
        rw [HA1.out] at hda ⊢
        rw [HB1.out] at hdb ⊢
        by_cases hgood : 0 ≤ digA c k ∧ 0 ≤ digB c k
        · have HG : Kp (unhK c (k + 1) = true) := ⟨by rw [unhK, G0.out]; simp [hgood.1, hgood.2]⟩
          have HS := Kp.mk (rowU_step c hlt)
          obtain ⟨g1, g2⟩ := hgood
          generalize digA c k = da at *
          generalize digB c k = db at *
          have ho := or16 da db (by omega) (by omega)
          have t1 : ¬ da < 0 := by omega
          have t2 : ¬ db < 0 := by omega
          go_wp2_with fail
          refine ⟨⟨k + 1, by omega, by go_num, HG, ⟨(G1.out.set k _).as (by have h := HS.out; rwa [Int.emod_eq_of_lt (by omega) (by omega)] at h)⟩, ⟨G2.out.setCell (p := ⟨A, k, none⟩) (Nat.le_refl _) _⟩⟩, by simp [intOf]; omega⟩
        · have HG := unhOk_bad c k (by have := HN.out; have := HM.out; omega) hgood
          have HE := Kp.mk HG.1
          have HL := Kp.mk HG.2
          clear HG
          generalize digA c k = da at *
          generalize digB c k = db at *
          by_cases t1 : da < 0
          · go_wp2_with fail
            go_ret2
            exact ⟨.slice none 0 0, by rw [HE.out]; first | done | rfl, by rw [HL.out]; exact HoldsB.nil _ _, by rw [← HA.out]; exact G2.out⟩
          · have t2 : db < 0 := by omega
            go_wp2_with fail
            go_ret2
            exact ⟨.slice none 0 0, by rw [HE.out]; first | done | rfl, by rw [HL.out]; exact HoldsB.nil _ _, by rw [← HA.out]; exact G2.out⟩
      · have e : k = m := by omega
        subst e
        have hlt' : ¬ (k : Int) < (k : Int) := by omega
        have HG := unhOk_all c (by have := HN.out; have := HM.out; omega) (by have h := G0.out; rw [show k = c.length / 2 by have := HN.out; have := HM.out; omega] at h; exact h)
        have HE := Kp.mk HG.1
        have HL : Kp (unhL c = unhI c k) := ⟨by rw [HG.2, show k = c.length / 2 by have := HN.out; have := HM.out; omega]⟩
        clear HG
        have HB : Kp (HoldsB wr wr.heap.size (.slice (some ⟨A, 0, none⟩) k k) (unhI c k)) := ⟨by
          have h := G1.out
          rw [rowU_all] at h
          exact HoldsB.ofRow2 h (unhI_len c k).symm (Nat.le_refl _) (by unfold maxLen; omega) (fun i hi => by rw [Nat.zero_add]; exact row_at hi) (unhI_bytes c k)⟩
        go_wp2_with fail
        go_ret2
        exact ⟨_, by rw [HE.out]; first | done | rfl, by rw [HL.out]; exact HB.out, by rw [← HA.out]; exact G2.out⟩
  · have HG := unhOk_odd c (by rw [← hn]; exact he)
    have HE := Kp.mk HG.1
    have HL := Kp.mk HG.2
    have ht : (n : Int).tmod 2 = 1 := by rw [Int.tmod_eq_emod_of_nonneg (by omega)]; omega
    clear HG hn he
    go_enter Tryd.func18, Tryd.ntmps18
    go_wp2_with fail
    go_ret2
    exact ⟨.slice none 0 0, by rw [HE.out]; first | done | rfl, by rw [HL.out]; exact HoldsB.nil _ _, Below.refl _ _⟩
end Go.Proofs.YtahmioiefmheeaaDoor
