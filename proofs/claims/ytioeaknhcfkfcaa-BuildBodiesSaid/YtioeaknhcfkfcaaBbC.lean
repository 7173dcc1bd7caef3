/-
  The document's Bodies.
-/
import Derived.Test.YtioeaknhcfkfcaaBbB
namespace Go.Proofs.Ytioeaknhcfkfcaa
open Go.RowKit

set_option maxRecDepth 100000 in
set_option maxHeartbeats 6400000 in
theorem rbodies_any (kind id most : Int) (v : Value) (bl : List Int) (w : World) (h : HoldsB w w.heap.size v bl) (hl : bl.length ≤ 20000) (hid : 0 ≤ id ∧ id ≤ 4294967295) :
    Calls Try.prog 16 #[.int .i64 kind, .int .u32 id, v, .int .i64 most] w (BodPost 60 (bodL kind id bl most) (bodE kind bl most) w) := by
  have H := Kp.mk h
  obtain ⟨a, n, cap, rfl, hn⟩ := h.slice
  have HN := Kp.mk hn
  have hn2 : n ≤ 20000 := by omega
  have HID := Kp.mk hid
  clear h hl hn hid
  cases hok : okB kind most with
  | false =>
    have HE : Kp (bodE kind bl most = 1 ∧ bodL kind id bl most = []) := ⟨by
      have e : bodE kind bl most = 1 := by unfold bodE; rw [if_pos hok]
      exact ⟨e, by unfold bodL; rw [e]; rfl⟩⟩
    have hc : (kind < 1) ∨ (¬ kind < 1 ∧ 3 < kind) ∨ (¬ kind < 1 ∧ ¬ 3 < kind ∧ most < 16) ∨ (¬ kind < 1 ∧ ¬ 3 < kind ∧ ¬ most < 16 ∧ 4096 < most) := by
      simp [okB] at hok; omega
    clear hok
    rcases hc with h1 | ⟨h1, h2⟩ | ⟨h1, h2, h3⟩ | ⟨h1, h2, h3, h4⟩
    all_goals
      go_enter Try.func16, Try.ntmps16
      go_wp2_with fail
      refine bodyPost_ret (results_tmp2 rfl _ _ _) rfl ?_
      rw [HE.out.1, HE.out.2]
      exact BodPost.none (Below.refl _ _)
  | true =>
    have hk : 1 ≤ kind ∧ kind ≤ 3 ∧ 16 ≤ most ∧ most ≤ 4096 := by simpa [okB] using hok
    have HK := Kp.mk hk
    have hk1 : ¬ kind < 1 := by omega
    have hk3 : ¬ 3 < kind := by omega
    have h16 : ¬ most < 16 := by omega
    have h40 : ¬ 4096 < most := by omega
    by_cases hs : (n : Int) ≤ most
    · have HE : Kp (bodE kind bl most = 0 ∧ bodL kind id bl most = [(kind, bl)]) := ⟨by
        have e : bodE kind bl most = 0 := by unfold bodE; rw [if_neg (by rw [hok]; simp), if_pos (by rw [← HN.out]; exact hs)]
        exact ⟨e, by unfold bodL; rw [e, if_neg (by simp), if_pos (by rw [← HN.out]; exact hs)]⟩⟩
      clear hok hk
      go_enter Try.func16, Try.ntmps16
      go_wp2_with fail
      refine bodyPost_ret (results_tmp2 rfl _ _ _) rfl ?_
      rw [HE.out.1, HE.out.2]
      exact ⟨_, [⟨kind, .slice a n cap, bl⟩], rfl, more (Below.refl _ _) _, ownsRow_two (Nat.le_refl _) (Blk.new _ _), (fun x hx => by simp at hx; subst hx; exact H.out.grow (more (Below.refl _ _) _)), rfl⟩
    · have hkw : IntKind.u8.wrap kind = kind := by rw [IntKind.wrap_u8']; omega
      obtain ⟨sz, hsz⟩ : ∃ sz : Nat, sz = (most - 8).toNat := ⟨_, rfl⟩
      have hszi : most - 8 = (sz : Int) := by omega
      have HSZ : Kp (sz = (most - 8).toNat ∧ 8 ≤ sz ∧ sz ≤ 4088) := ⟨hsz, by omega, by omega⟩
      obtain ⟨m, hm⟩ : ∃ m, m = manyN (n + 1) sz := ⟨_, rfl⟩
      have HE : Kp (bodE kind bl most = (if 16384 < n + 1 then 1 else if 32 < m then 8 else 0)) := ⟨by
        unfold bodE; rw [if_neg (by rw [hok]; simp), if_neg (by rw [← HN.out]; exact hs), ← HN.out, ← hsz, ← hm]⟩
      have HL : Kp (bodE kind bl most = 0 → bodL kind id bl most = pieceTs id (kind :: bl) sz m m) := ⟨fun e => by
        unfold bodL; rw [if_neg (by rw [e]; simp), if_neg (by rw [← HN.out]; exact hs), ← HN.out, ← hsz, ← hm]⟩
      have HL0 : Kp (bodE kind bl most ≠ 0 → bodL kind id bl most = []) := ⟨fun e => by unfold bodL; rw [if_pos e]⟩
      have HM := Kp.mk hm
      have HLA : Kp ((kind :: bl).length = n + 1) := ⟨by simp [HN.out]⟩
      have HBA : Kp (Bytes (kind :: bl)) := ⟨fun x hx => by
        rcases List.mem_cons.1 hx with rfl | hx
        · have := HK.out; omega
        · exact H.out.bytes x hx⟩
      obtain ⟨A, hA⟩ : ∃ A, A = w.heap.size := ⟨_, rfl⟩
      have HAe := Kp.mk hA
      obtain ⟨i0, hi0, hz0, hz1, hz2⟩ := info_parts info60'
      clear hok hk hsz hm hA
      go_enter Try.func16, Try.ntmps16
      have HROW : Kp ((w.alloc (.cells #[.int .u8 kind] 5)).ownsRow A 5 1 (.slice (some ⟨w.heap.size, 0, none⟩) 1 1) 1 (bv [kind])) := ⟨ownsRow_oneB (by rw [HAe.out]; exact Nat.le_refl _) (Blk.new _ _)⟩
      have H2 := Kp.mk (H.out.alloc (.cells #[.int .u8 kind] 5))
      go_wp2_with (at_builtin; refine wpList_append_holds rfl (.tmp 41) (.tmp 42) rfl A _ 1 (bv [kind]) rfl HROW.out w.heap.size _ bl rfl H2.out ?a1 ?a2 ?_)
      case a1 => rw [← HN.out]; omega
      case a2 => rw [HAe.out]; simp
      · intro v' w2 ho hg
        have E2 : Kp (Below A w w2) := ⟨below_row_grown (by rw [HAe.out]; exact more (Below.refl _ _) _) (by rw [HAe.out]; simp) HROW.out hg⟩
        have Z2 : Kp (A ≤ w2.heap.size) := ⟨by have h8 := hg.size; rw [HAe.out]; simp at h8; omega⟩
        have HX : Kp (HoldsB w2 w2.heap.size v' (kind :: bl)) := ⟨HoldsB.ofRow HBA.out (by rw [HLA.out]; have h9 := ho; rw [← HN.out, Nat.add_comm 1 n] at h9; exact h9)⟩
        clear ho hg HROW H2
        obtain ⟨xa, xn, xc, rfl, hxn⟩ := HX.out.slice
        rw [HLA.out] at hxn
        subst hxn
        have hmo : (most : Int) - 8 ≤ 4096 := by omega
        by_cases hb1 : 16384 < n + 1
        · have HE1 : Kp (bodE kind bl most = 1) := ⟨by rw [HE.out, if_pos hb1]⟩
          go_wp2_with fail
          refine (rsplit_bad id sz xa (n + 1) xc _ (by omega) (.inr (.inr hb1))).mono ?_
          rintro r w3 ⟨rfl, rfl⟩
          go_wp2_with fail
          refine bodyPost_ret (results_tmp2 rfl _ _ _) rfl ?_
          rw [HL0.out (by rw [HE1.out]; decide), HE1.out]
          exact BodPost.none (by rw [← HAe.out]; exact E2.out)
        · by_cases hb2 : 32 < m
          · have HE1 : Kp (bodE kind bl most = 8) := ⟨by rw [HE.out, if_neg hb1, if_pos hb2]⟩
            go_wp2_with fail
            refine (rsplit_many id sz (n + 1) xa xc _ (by have := HSZ.out; omega) (by omega) (by rw [← HM.out]; exact hb2)).mono ?_
            rintro r w3 ⟨rfl, rfl⟩
            go_wp2_with fail
            refine bodyPost_ret (results_tmp2 rfl _ _ _) rfl ?_
            rw [HL0.out (by rw [HE1.out]; decide), HE1.out]
            exact BodPost.none (by rw [← HAe.out]; exact E2.out)
          · have HE1 : Kp (bodE kind bl most = 0) := ⟨by rw [HE.out, if_neg hb1, if_neg hb2]⟩
            have HSP := Kp.mk (rsplit_any id sz _ (kind :: bl) _ HX.out (by have := HSZ.out; omega) (by rw [HLA.out]; omega) (by rw [HLA.out, ← HM.out]; omega) (fun k hk => by rw [HLA.out] at hk ⊢; exact manyN_lt hk))
            rw [HLA.out, ← HM.out] at HSP
            have HM32 : Kp (m ≤ 32) := ⟨by omega⟩
            clear hb1 hb2
            go_wp2_with fail
            refine HSP.out.mono ?_
            rintro r w3 ⟨vp, l, rfl, hb, hP, hlm, hall⟩
            have E3 : Kp (Below A w w3) := ⟨E2.out.trans (hb.mono Z2.out)⟩
            have Z3 : Kp (A ≤ w3.heap.size) := ⟨Nat.le_trans Z2.out hb.size⟩
            have HP := Kp.mk hP
            have HALL := Kp.mk hall
            have HLM := Kp.mk hlm
            obtain ⟨S, hS⟩ : ∃ S, S = w3.heap.size := ⟨_, rfl⟩
            have HSe := Kp.mk hS
            have hm9 : m ≤ 9223372036854775807 := by have := HM32.out; omega
            clear hb hP hall hlm HX HSP E2 Z2 hS
            obtain ⟨vpa, vpc, rfl⟩ : ∃ a c, vp = .slice a m c := by
              rcases HP.out.r.2 with ⟨h9, h8⟩ | ⟨g, cap, cur, h9, _⟩
              · rw [h9, ← HLM.out, h8]; exact ⟨_, _, rfl⟩
              · rw [h9, HLM.out]; exact ⟨_, _, rfl⟩
            go_wp2_with fail
            go_loopw [13, 14, 15] (fun v c _ wr => ∃ (i : Nat) (L : List BdV), i ≤ m ∧ c = .int .i64 i ∧ Kp (L.length = i) ∧ Kp (wr.ownsRow S 60 2 v i (L.flatMap bdc)) ∧ Kp (∀ x ∈ L, HoldsT wr x.v x.l) ∧ Kp (L.map (fun x => (x.k, x.l)) = pieceTs id (kind :: bl) sz m i) ∧ Kp (Below S w3 wr)) (fun _ c _ _ => m - (intOf c).toNat)
            case atStart => exact ⟨0, [], by omega, rfl, ⟨rfl⟩, ⟨World.ownsRow_nil _ _ _ _⟩, ⟨fun x hx => by cases hx⟩, ⟨rfl⟩, ⟨Below.refl _ _⟩⟩
            case round =>
              obtain ⟨i, L, hi, rfl, HLL, HO, HT, HMP, F0⟩ := hrel
              by_cases hlt : i < m
              · have t1 : (i : Int) < m := by omega
                have HLT := Kp.mk hlt
                have HPW := HP.out.keep (by rw [← HSe.out]; exact F0.out)
                obtain ⟨lb, lc, e9, -, -, hr⟩ := HPW.at (i := i) (by rw [HLM.out]; exact hlt)
                rw [HLM.out] at e9
                cases e9
                obtain ⟨q1, q2, q3, q4⟩ := HALL.out i _ (List.getElem?_eq_getElem (by rw [HLM.out]; exact hlt))
                have hH := HPW.text (List.getElem_mem (by rw [HLM.out]; exact hlt))
                obtain ⟨pa, pn, pc, e5, e6⟩ := hH.slice
                unfold pcc at hr
                rw [q1, q2, q3, e5, e6, q4] at hr
                rw [e5, e6, q4] at hH
                have HR := Kp.mk hr
                have HH := Kp.mk hH
                clear q1 q2 q3 q4 e5 e6 HPW
                have HPL : Kp ((pieceL (kind :: bl) sz i).length ≤ 4096) := ⟨by have := pieceL_len (bl := kind :: bl) (sz := sz) (k := i); have := HSZ.out; omega⟩
                obtain ⟨pl, hpl⟩ : ∃ pl, pl = (pieceL (kind :: bl) sz i).length := ⟨_, rfl⟩
                rw [← hpl] at HR HH HPL
                clear hr hH hpl hlt
                go_wp2_with (refine wpList_load_mid rfl 109 (.tmp 64) rfl lb (i * 4) rfl [.int .u32 id, .int .i64 i, .int .i64 m, .slice pa pl pc] _ HR.out Try.underlying109 rfl (by kernel_rfl) ?_)
                refine (rputN_good ⟨id, i, m, pa, pl, pc⟩ (pieceL (kind :: bl) sz i) _ HH.out (by unfold rightB; have := HM32.out; have := HPL.out; simp; omega) HID.out).mono ?_
                rintro r w4 ⟨v', rfl, hT, hb⟩
                have F1 : Kp (Below S w3 w4) := ⟨F0.out.trans (hb.mono (by rw [HSe.out]; exact F0.out.size))⟩
                have Z1 : Kp (S ≤ w4.heap.size) := ⟨by rw [HSe.out]; exact F1.out.size⟩
                have HW1 : Kp (Below wr.heap.size wr w4) := ⟨hb⟩
                have HO1 := Kp.mk (ownsRow_below HO.out HW1.out)
                have HT1 : Kp (∀ x ∈ L, HoldsT w4 x.v x.l) := ⟨fun x hx => (HT.out x hx).grow HW1.out⟩
                have HN1 : Kp (HoldsT w4 v' (pieceT id (kind :: bl) sz m i)) := ⟨hT⟩
                clear hT hb HO HT HW1 F0 HR HH
                obtain ⟨va, vn, vc, rfl, -⟩ := HN1.out.1.slice
                go_wp2_with (at_builtin; refine wpList_append_own _ rfl _ _ 55 rfl S 60 i0 (.agg #[.int .i64 0, .slice none 0 0]) 2 32 Try.underlying55 hi0 hz0 hz1 hz2 rfl (by decide) _ i (L.flatMap bdc) rfl (HO1.out.alloc _) ⟨w4.heap.size, 0, none⟩ 1 1 [.int .i64 4, .slice va vn vc] rfl rfl ?c1 ?c2 ?c3 ?c4 ?c5 ?_)
                case c1 =>
                  intro j u hj
                  match j, hj with
                  | 0, hj => simp at hj; subst hj; simp [Addr.add]
                  | 1, hj => simp at hj; subst hj; simp [Addr.add]
                case c2 =>
                  intro u hu
                  simp at hu
                  rcases hu with rfl | rfl <;> rfl
                case c3 => have := HM32.out; have := HLT.out; unfold maxLen; omega
                case c4 => have := HM32.out; have := HLT.out; omega
                case c5 => have := Z1.out; simp; omega
                · intro v' w5 hown' hgrow _
                  have HA5 : Kp (∀ x ∈ L ++ [(⟨4, .slice va vn vc, pieceT id (kind :: bl) sz m i⟩ : BdV)], HoldsT w5 x.v x.l) := ⟨fun x hx => by
                    have hx4 : HoldsT (w4.alloc (.cells #[.int .i64 4, .slice va vn vc] 60)) x.v x.l := by
                      rcases List.mem_append.1 hx with hx | hx
                      · exact (HT1.out x hx).grow (more (Below.refl _ _) _)
                      · simp at hx; subst hx; exact HN1.out.grow (more (Below.refl _ _) _)
                    exact hx4.grown (HO1.out.alloc _) (by decide) hgrow⟩
                  have F5 : Kp (Below S w3 w5) := ⟨below_row_grown (F1.out.alloc Z1.out _) (by have := Z1.out; simp; omega) (HO1.out.alloc _) hgrow⟩
                  have HO5 : Kp (w5.ownsRow S 60 2 v' (i + 1) ((L ++ [(⟨4, .slice va vn vc, pieceT id (kind :: bl) sz m i⟩ : BdV)]).flatMap bdc)) := ⟨by rw [← bdc_snoc]; exact hown'⟩
                  have HM5 : Kp ((L ++ [(⟨4, .slice va vn vc, pieceT id (kind :: bl) sz m i⟩ : BdV)]).map (fun x => (x.k, x.l)) = pieceTs id (kind :: bl) sz m (i + 1)) := ⟨by rw [List.map_append, HMP.out, pieceTs_snoc]; rfl⟩
                  clear hown' hgrow
                  go_wp2_with fail
                  exact ⟨⟨i + 1, _, by have := HLT.out; omega, by go_num, ⟨by rw [List.length_append, HLL.out]; rfl⟩, HO5, HA5, HM5, F5⟩, by have := HLT.out; simp [intOf]; omega⟩
              · obtain rfl : i = m := by omega
                go_wp2_with fail
                refine bodyPost_ret (results_tmp2 rfl _ _ _) rfl ?_
                rw [HL.out HE1.out, HE1.out]
                exact ⟨_, L, rfl, by rw [← HAe.out]; exact E3.out.trans (F0.out.mono (by rw [HSe.out]; exact Z3.out)), by rw [← HAe.out, HLL.out]; exact ownsRow_base HO.out (by rw [HSe.out]; exact Z3.out), fun x hx => (HT.out x hx).1, HMP.out⟩
end Go.Proofs.Ytioeaknhcfkfcaa
