/-
  The document's Updates.
  The document's Bodies.
  Whole, by the program and by the document; the example.
  BuildBodies: the example; the walk.
  BuildUpdates: updates of entries that are the same; the walk.
-/
import Derived.Test.YtioeaknhcfkfcaaBu15
namespace Go.Proofs.Ytioeaknhcfkfcaa
open Go.RowKit

theorem updX_none {u : Bool} {f : Nat → E3} {n : Nat} (h : updE f n ≠ 0) : updX u f n = [] := by unfold updX; rw [if_neg h]
theorem updX_some {u : Bool} {f : Nat → E3} {n : Nat} (h : updE f n = 0) : 0 < (updX u f n).length := by
  unfold updX
  rw [if_pos h]
  unfold updB
  simp only [List.length_append, digs_len]
  omega
set_option maxRecDepth 100000 in
set_option maxHeartbeats 32000000 in
theorem rupdates_any (u : Bool) (a : Option Addr) (n c : Nat) (f : Nat → E3) (most : Int) (w : World) (h : HoldsW w w.heap.size a n f) (hn : n ≤ 30) (hc : n ≤ c) :
    Calls Try.prog 10 #[.slice a n c, .bool u, .int .i64 most] w (UpsPost (upds u f most n 0) w) := by
  obtain ⟨A, hA⟩ : ∃ A, A = w.heap.size := ⟨_, rfl⟩
  have HAe := Kp.mk hA
  have HN := Kp.mk (And.intro hn hc)
  have hn9 : n ≤ 9223372036854775807 := by omega
  obtain ⟨i0, hi0, hz0, hz1, hz2⟩ := info_parts info39z
  obtain ⟨TOT, hTOT⟩ : ∃ TOT, TOT = upds u f most n 0 := ⟨_, rfl⟩
  have HT0 := Kp.mk hTOT
  have HTL : Kp (TOT.length ≤ 30) := ⟨by rw [hTOT]; exact Nat.le_trans (upds_len u f most 0 n) hn⟩
  have S0 : Kp (HoldsW w A a n f ∧ Below A w w ∧ A ≤ w.heap.size) := ⟨by rw [hA]; exact h, Below.refl _ _, by omega⟩
  rw [← hTOT]
  clear h hA hc hn hTOT
  go_enter Try.func10, Try.ntmps10
  go_wp2_with fail
  go_loopw [7, 8] (fun ov fv wr => ∃ (k : Nat) (oa : Option Addr) (on oc : Nat) (L : List (Value × List Int)), fv = .int .i64 k ∧ ov = .slice oa on oc ∧ Kp (k ≤ n) ∧ Kp (TB wr A (.slice oa on oc) L) ∧ Kp (L.map (·.2) ++ upds u f most (n - k) k = TOT) ∧ Kp (HoldsW wr A a n f ∧ Below A w wr ∧ A ≤ wr.heap.size)) (fun _ fv _ => n - (intOf fv).toNat)
  case atStart => exact ⟨0, none, 0, 0, [], rfl, rfl, ⟨by omega⟩, ⟨TB.nil _ _⟩, ⟨by rw [HT0.out]; rfl⟩, S0⟩
  case round =>
    obtain ⟨k, oa, on, oc, L, rfl, rfl, HK, HB, HTOT, HS⟩ := hrel
    by_cases hlt : k < n
    · have HLT := Kp.mk hlt
      have hk9 : k ≤ 100 := by have := HN.out; omega
      have HUP := Kp.mk (upds_pos u f most (n - k) k (by omega))
      have HFD : Kp (fit u (sh f k) (n - k) most = fitGo u (sh f k) most (n - k - 1) 1) := ⟨rfl⟩
      go_wp2_with fail
      go_loopw [9] (fun ct wr => ∃ t : Nat, ct = .int .i64 t ∧ Kp (k < t ∧ t ≤ n) ∧ Kp (fitGo u (sh f k) most (n - t) (t - k) = fitGo u (sh f k) most (n - k - 1) 1) ∧ Kp (TB wr A (.slice oa on oc) L) ∧ Kp (HoldsW wr A a n f ∧ Below A w wr ∧ A ≤ wr.heap.size)) (fun ct _ => n - (intOf ct).toNat)
      case atStart => exact ⟨k + 1, by go_num, ⟨by omega, by have := HLT.out; omega⟩, ⟨by rw [show n - (k + 1) = n - k - 1 by omega, show k + 1 - k = 1 by omega]⟩, HB, HS⟩
      case round =>
        clear HB HS
        obtain ⟨t, rfl, HT, HG, HB, HS⟩ := hrel
        have ht9 : t ≤ 100 := by have := HT.out; have := HN.out; omega
        obtain ⟨a3, hc3, ha3⟩ := cut_mid 22 Try.underlying22 (fun w => by rfl) a n c k t (by have := HT.out; omega) (by have := HT.out; have := HN.out; omega)
        have HA3 := Kp.mk ha3
        have hkt : (k : Int) ≤ t := by have := HT.out; omega
        have htc : (t : Int) ≤ c := by have := HT.out; have := HN.out; omega
        clear ha3
        by_cases hlt2 : t < n
        case' neg =>
          have HEX : Kp (fit u (sh f k) (n - k) most = t - k) := ⟨by
            rw [HFD.out, ← HG.out, show n - t = 0 by omega]
            rfl⟩
          have HSW := HS
          have HBW := HB
          obtain ⟨W, rfl⟩ : ∃ W, W = wr := ⟨_, rfl⟩
          clear HG HFD HS HB
          go_wp2_with fail
          clear hlt2
        case' pos =>
          have hmc : (t : Int) + 1 ≤ c := by have := HN.out; omega
          have hkt1 : (k : Int) ≤ (t : Int) + 1 := by omega
          obtain ⟨a2, hcm, ha2⟩ := cut_mid 22 Try.underlying22 (fun w => by rfl) a n c k (t + 1) (by have := HT.out; omega) (by have := HN.out; omega)
          rw [show ((t + 1 : Nat) : Int) = (t : Int) + 1 from rfl, show t + 1 - k = (t - k) + 1 by have := HT.out; omega] at hcm
          have HA2 : Kp (HoldsW wr A a2 (t - k + 1) (sh f k)) := ⟨by
            have h9 := (HS.out.1.take (m := t + 1) (by omega)).from (k := k) (fun h9 => ha2 (by have := HN.out; have := HT.out; omega))
            rw [show t + 1 - k = t - k + 1 by have := HT.out; omega] at h9
            exact h9⟩
          have HGS : Kp (fitGo u (sh f k) most (n - t) (t - k) = if ((updX u (sh f k) (t - k + 1)).length : Int) ≤ most then fitGo u (sh f k) most (n - (t + 1)) (t - k + 1) else t - k) := ⟨by
            rw [show n - t = (n - (t + 1)) + 1 by omega]; rfl⟩
          have HLT2 := Kp.mk hlt2
          clear ha2
          go_wp2_with fail
          refine (rputUpdate_any u a2 (t - k + 1) (c - k) (sh f k) wr (HA2.out.mono HS.out.2.2) (by have := HN.out; have := HLT2.out; omega)).mono ?_
          rintro r w4 ⟨v4, rfl, hT4, hb⟩
          have HSW : Kp (HoldsW w4 A a n f ∧ Below A w w4 ∧ A ≤ w4.heap.size) := ⟨HS.out.1.keep hb, HS.out.2.1.trans (hb.mono HS.out.2.2), Nat.le_trans HS.out.2.2 hb.size⟩
          have HBW := Kp.mk (HB.out.keep hb)
          obtain ⟨X, hX⟩ : ∃ X, X = updX u (sh f k) (t - k + 1) := ⟨_, rfl⟩
          have HXE : Kp (updE (sh f k) (t - k + 1) ≠ 0 → X = []) := ⟨fun h9 => by rw [hX]; exact updX_none h9⟩
          rw [← hX] at HGS hT4
          have HL4 : Kp (X.length ≤ maxLen) := ⟨hT4.1.len⟩
          obtain ⟨a4, n4, c4, rfl, hn4⟩ := hT4.1.slice
          rw [← hn4] at HGS HL4
          have HN4 := Kp.mk hn4
          have hl9 : n4 ≤ 9223372036854775807 := by have := HL4.out; unfold maxLen at this; omega
          obtain ⟨E, hE⟩ : ∃ E, E = updE (sh f k) (t - k + 1) := ⟨_, rfl⟩
          rw [← hE] at HXE ⊢
          clear hT4 hb HS HB HA2 hcm hkt1 hmc hX hn4 hE hlt2
          by_cases hle : (n4 : Int) ≤ most
          · rw [if_pos hle] at HGS
            have hgt : ¬ most < (n4 : Int) := by omega
            by_cases hE0 : E = 0
            · have e1 : (E == 0) = true := by simp [hE0]
              have e2 : (E != 0) = false := by simp [hE0]
              clear hE0
              go_wp2_with fail
              exact ⟨⟨t + 1, by go_num, ⟨by have := HT.out; omega, by have := HLT2.out; omega⟩, ⟨by rw [show t + 1 - k = t - k + 1 by have := HT.out; omega, ← HGS.out]; exact HG.out⟩, HBW, HSW⟩, by have := HLT2.out; simp [intOf]; omega⟩
            · obtain rfl : n4 = 0 := by rw [HN4.out, HXE.out hE0]; rfl
              have hz0 : ¬ most < 0 := by simpa using hgt
              have e1 : (E == 0) = false := by simp [hE0]
              have e2 : (E != 0) = true := by simp [hE0]
              clear hE0
              go_wp2_with fail
              exact ⟨⟨t + 1, by go_num, ⟨by have := HT.out; omega, by have := HLT2.out; omega⟩, ⟨by rw [show t + 1 - k = t - k + 1 by have := HT.out; omega, ← HGS.out]; exact HG.out⟩, HBW, HSW⟩, by have := HLT2.out; simp [intOf]; omega⟩
          rw [if_neg hle] at HGS
          have hgt : most < (n4 : Int) := by omega
          have HEX : Kp (fit u (sh f k) (n - k) most = t - k) := ⟨by rw [HFD.out, ← HG.out, HGS.out]⟩
          obtain ⟨W, rfl⟩ : ∃ W, W = w4 := ⟨_, rfl⟩
          clear hle HGS HG HFD
          by_cases hE0 : E = 0
          case' pos =>
            have e1 : (E == 0) = true := by simp [hE0]
            have e2 : (E != 0) = false := by simp [hE0]
            clear hE0
            go_wp2_with fail
            clear e1 e2 hgt hl9
          case' neg =>
            obtain rfl : n4 = 0 := by rw [HN4.out, HXE.out hE0]; rfl
            have hz0 : most < 0 := by simpa using hgt
            have e1 : (E == 0) = false := by simp [hE0]
            have e2 : (E != 0) = true := by simp [hE0]
            clear hE0
            go_wp2_with fail
            clear e1 e2 hgt hl9 hz0
        all_goals
          rw [HEX.out, show n - k - (t - k) = n - t by have := HT.out; omega, show k + (t - k) = t by have := HT.out; omega] at HUP
          have HA9 : Kp (HoldsW W A a3 (t - k) (sh f k)) := ⟨(HSW.out.1.take (m := t) HT.out.2).from (k := k) (fun h9 => HA3.out (by have := HN.out; have := HT.out; omega))⟩
          refine (rputUpdate_any u a3 (t - k) (c - k) (sh f k) W (HA9.out.mono HSW.out.2.2) (by have := HN.out; have := HT.out; omega)).mono ?_
          rintro r w6 ⟨v6, rfl, hT6, hb⟩
          have HS6 : Kp (HoldsW w6 A a n f ∧ Below A w w6 ∧ A ≤ w6.heap.size) := ⟨HSW.out.1.keep hb, HSW.out.2.1.trans (hb.mono HSW.out.2.2), Nat.le_trans HSW.out.2.2 hb.size⟩
          have HB6 := Kp.mk (HBW.out.keep hb)
          obtain ⟨Y, hY⟩ : ∃ Y, Y = updX u (sh f k) (t - k) := ⟨_, rfl⟩
          have HYE : Kp (updE (sh f k) (t - k) ≠ 0 → Y = []) := ⟨fun h9 => by rw [hY]; exact updX_none h9⟩
          have HYS : Kp (updE (sh f k) (t - k) = 0 → 0 < Y.length) := ⟨fun h9 => by rw [hY]; exact updX_some h9⟩
          rw [← hY] at HUP hT6
          obtain ⟨a6, n6, c6, rfl, hn6⟩ := hT6.1.slice
          have HT6 := Kp.mk hT6
          obtain ⟨E6, hE6⟩ : ∃ E6, E6 = updE (sh f k) (t - k) := ⟨_, rfl⟩
          rw [← hE6] at HYE HYS ⊢
          clear hT6 hb HSW HBW HA9 hc3 hkt htc hn6 hY hE6 HEX
          by_cases hE0 : E6 = 0
          · rw [if_pos (HYS.out hE0)] at HUP
            have g1 : (E6 == 0) = true := by simp [hE0]
            have g2 : (E6 != 0) = false := by simp [hE0]
            have HLL : Kp (L.length < 30) := ⟨by
              have h1 := congrArg List.length HTOT.out
              rw [HUP.out] at h1
              simp at h1
              have := HTL.out
              omega⟩
            obtain rfl : on = L.length := ownsRow_len HB6.out.r
            clear hE0
            go_wp2_with (at_builtin; refine wpList_append_own _ rfl _ _ 34 rfl A 39 i0 (.slice none 0 0) 1 24 Try.underlying34 hi0 hz0 hz1 hz2 rfl (by decide) _ L.length (L.map (·.1)) rfl (HB6.out.r.alloc _) ⟨w6.heap.size, 0, none⟩ 1 1 [.slice a6 n6 c6] rfl rfl ?c1 ?c2 ?c3 ?c4 ?c5 ?_)
            case c1 =>
              intro j x hj
              match j, hj with
              | 0, hj => simp at hj; subst hj; simp [Addr.add]
            case c2 =>
              intro x hx
              simp at hx
              subst hx
              rfl
            case c3 => have := HLL.out; unfold maxLen; omega
            case c4 => have := HLL.out; omega
            case c5 => have := HS6.out.2.2; simp; omega
            · intro v' w5 hown' hgrow _
              obtain ⟨a9, n9, c9, rfl⟩ : ∃ a n c, v' = .slice a n c := by rcases hown'.2 with ⟨e9, _⟩ | ⟨g, cap, cur, e9, _⟩ <;> exact ⟨_, _, _, e9⟩
              have HB5 := Kp.mk (HB6.out.app (x := (.slice a6 n6 c6, Y)) HT6.out hown' hgrow)
              have HE5 : Kp (Below A w6 w5) := ⟨below_row_grown ((Below.refl _ _).alloc HS6.out.2.2 _) (by have := HS6.out.2.2; simp; omega) (HB6.out.r.alloc _) hgrow⟩
              have HS5 : Kp (HoldsW w5 A a n f ∧ Below A w w5 ∧ A ≤ w5.heap.size) := ⟨HS6.out.1.upto HE5.out (Nat.le_refl _), HS6.out.2.1.trans HE5.out, Nat.le_trans HS6.out.2.2 HE5.out.size⟩
              have HT5 : Kp ((L ++ [((.slice a6 n6 c6 : Value), Y)]).map (·.2) ++ upds u f most (n - t) t = TOT) := ⟨by rw [← HTOT.out, HUP.out]; simp⟩
              clear hown' hgrow HS6 HB6 HE5
              go_wp2_with fail
              exact ⟨⟨t, _, _, _, _, rfl, rfl, ⟨HT.out.2⟩, HB5, HT5, HS5⟩, by have := HT.out; simp [intOf]; omega⟩
          · rw [HYE.out hE0] at HUP
            have g1 : (E6 == 0) = false := by simp [hE0]
            have g2 : (E6 != 0) = true := by simp [hE0]
            have HT5 : Kp (L.map (·.2) ++ upds u f most (n - t) t = TOT) := ⟨by rw [← HTOT.out, HUP.out]; simp⟩
            clear hE0
            go_wp2_with fail
            exact ⟨⟨t, _, _, _, L, rfl, rfl, ⟨HT.out.2⟩, HB6, HT5, HS6⟩, by have := HT.out; simp [intOf]; omega⟩
    · obtain rfl : k = n := by have := HK.out; omega
      have hz : (upds u f most (k - k) k) = [] := by rw [Nat.sub_self]; exact upds_zero _ _ _ _
      rw [hz, List.append_nil] at HTOT
      obtain rfl : on = L.length := ownsRow_len HB.out.r
      clear hz
      go_wp2_with fail
      go_ret
      exact ⟨oa, oc, L, rfl, by rw [← HAe.out]; exact HB.out, HTOT.out, by rw [← HAe.out]; exact HS.out.2.1⟩
end Go.Proofs.Ytioeaknhcfkfcaa

namespace Go.Proofs.Ytioeaknhcfkfcaa
open Go.RowKit

set_option maxRecDepth 100000 in
set_option maxHeartbeats 6400000 in
theorem rbodies_any (kind id most : Int) (v : Value) (bl : List Int) (w : World) (h : HoldsB w w.heap.size v bl) (hl : bl.length ≤ 20000) (hid : 0 ≤ id ∧ id ≤ 4294967295) :
    Calls Try.prog 16 #[.int .i64 kind, .int .u32 id, v, .int .i64 most] w (BodPost 60 (bodL kind id bl most) (bodE kind bl most) w) := by
  have H := Kp.mk h
  obtain ⟨a, n, cap, rfl, hn⟩ := h.slice
  have HN := Kp.mk hn
  have hn2 : n ≤ 20000 := by omega
  have HID := Kp.mk hid
  clear h hl hn hid
  cases hok : okB kind most with
  | false =>
    have HE : Kp (bodE kind bl most = 1 ∧ bodL kind id bl most = []) := ⟨by
      have e : bodE kind bl most = 1 := by unfold bodE; rw [if_pos hok]
      exact ⟨e, by unfold bodL; rw [e]; rfl⟩⟩
    have hc : (kind < 1) ∨ (¬ kind < 1 ∧ 3 < kind) ∨ (¬ kind < 1 ∧ ¬ 3 < kind ∧ most < 16) ∨ (¬ kind < 1 ∧ ¬ 3 < kind ∧ ¬ most < 16 ∧ 4096 < most) := by
      simp [okB] at hok; omega
    clear hok
    rcases hc with h1 | ⟨h1, h2⟩ | ⟨h1, h2, h3⟩ | ⟨h1, h2, h3, h4⟩
    all_goals
      go_enter Try.func16, Try.ntmps16
      go_wp2_with fail
      refine bodyPost_ret (results_tmp2 rfl _ _ _) rfl ?_
      rw [HE.out.1, HE.out.2]
      exact BodPost.none (Below.refl _ _)
  | true =>
    have hk : 1 ≤ kind ∧ kind ≤ 3 ∧ 16 ≤ most ∧ most ≤ 4096 := by simpa [okB] using hok
    have HK := Kp.mk hk
    have hk1 : ¬ kind < 1 := by omega
    have hk3 : ¬ 3 < kind := by omega
    have h16 : ¬ most < 16 := by omega
    have h40 : ¬ 4096 < most := by omega
    by_cases hs : (n : Int) ≤ most
    · have HE : Kp (bodE kind bl most = 0 ∧ bodL kind id bl most = [(kind, bl)]) := ⟨by
        have e : bodE kind bl most = 0 := by unfold bodE; rw [if_neg (by rw [hok]; simp), if_pos (by rw [← HN.out]; exact hs)]
        exact ⟨e, by unfold bodL; rw [e, if_neg (by simp), if_pos (by rw [← HN.out]; exact hs)]⟩⟩
      clear hok hk
      go_enter Try.func16, Try.ntmps16
      go_wp2_with fail
      refine bodyPost_ret (results_tmp2 rfl _ _ _) rfl ?_
      rw [HE.out.1, HE.out.2]
      exact ⟨_, [⟨kind, .slice a n cap, bl⟩], rfl, more (Below.refl _ _) _, ownsRow_two (Nat.le_refl _) (Blk.new _ _), (fun x hx => by simp at hx; subst hx; exact H.out.grow (more (Below.refl _ _) _)), rfl⟩
    · have hkw : IntKind.u8.wrap kind = kind := by rw [IntKind.wrap_u8']; omega
      obtain ⟨sz, hsz⟩ : ∃ sz : Nat, sz = (most - 8).toNat := ⟨_, rfl⟩
      have hszi : most - 8 = (sz : Int) := by omega
      have HSZ : Kp (sz = (most - 8).toNat ∧ 8 ≤ sz ∧ sz ≤ 4088) := ⟨hsz, by omega, by omega⟩
      obtain ⟨m, hm⟩ : ∃ m, m = manyN (n + 1) sz := ⟨_, rfl⟩
      have HE : Kp (bodE kind bl most = (if 16384 < n + 1 then 1 else if 32 < m then 8 else 0)) := ⟨by
        unfold bodE; rw [if_neg (by rw [hok]; simp), if_neg (by rw [← HN.out]; exact hs), ← HN.out, ← hsz, ← hm]⟩
      have HL : Kp (bodE kind bl most = 0 → bodL kind id bl most = pieceTs id (kind :: bl) sz m m) := ⟨fun e => by
        unfold bodL; rw [if_neg (by rw [e]; simp), if_neg (by rw [← HN.out]; exact hs), ← HN.out, ← hsz, ← hm]⟩
      have HL0 : Kp (bodE kind bl most ≠ 0 → bodL kind id bl most = []) := ⟨fun e => by unfold bodL; rw [if_pos e]⟩
      have HM := Kp.mk hm
      have HLA : Kp ((kind :: bl).length = n + 1) := ⟨by simp [HN.out]⟩
      have HBA : Kp (Bytes (kind :: bl)) := ⟨fun x hx => by
        rcases List.mem_cons.1 hx with rfl | hx
        · have := HK.out; omega
        · exact H.out.bytes x hx⟩
      obtain ⟨A, hA⟩ : ∃ A, A = w.heap.size := ⟨_, rfl⟩
      have HAe := Kp.mk hA
      obtain ⟨i0, hi0, hz0, hz1, hz2⟩ := info_parts info60'
      clear hok hk hsz hm hA
      go_enter Try.func16, Try.ntmps16
      have HROW : Kp ((w.alloc (.cells #[.int .u8 kind] 5)).ownsRow A 5 1 (.slice (some ⟨w.heap.size, 0, none⟩) 1 1) 1 (bv [kind])) := ⟨ownsRow_oneB (by rw [HAe.out]; exact Nat.le_refl _) (Blk.new _ _)⟩
      have H2 := Kp.mk (H.out.alloc (.cells #[.int .u8 kind] 5))
      go_wp2_with (at_builtin; refine wpList_append_holds rfl (.tmp 41) (.tmp 42) rfl A _ 1 (bv [kind]) rfl HROW.out w.heap.size _ bl rfl H2.out ?a1 ?a2 ?_)
      case a1 => rw [← HN.out]; omega
      case a2 => rw [HAe.out]; simp
      · intro v' w2 ho hg
        have E2 : Kp (Below A w w2) := ⟨below_row_grown (by rw [HAe.out]; exact more (Below.refl _ _) _) (by rw [HAe.out]; simp) HROW.out hg⟩
        have Z2 : Kp (A ≤ w2.heap.size) := ⟨by have h8 := hg.size; rw [HAe.out]; simp at h8; omega⟩
        have HX : Kp (HoldsB w2 w2.heap.size v' (kind :: bl)) := ⟨HoldsB.ofRow HBA.out (by rw [HLA.out]; have h9 := ho; rw [← HN.out, Nat.add_comm 1 n] at h9; exact h9)⟩
        clear ho hg HROW H2
        obtain ⟨xa, xn, xc, rfl, hxn⟩ := HX.out.slice
        rw [HLA.out] at hxn
        subst hxn
        have hmo : (most : Int) - 8 ≤ 4096 := by omega
        by_cases hb1 : 16384 < n + 1
        · have HE1 : Kp (bodE kind bl most = 1) := ⟨by rw [HE.out, if_pos hb1]⟩
          go_wp2_with fail
          refine (rsplit_bad id sz xa (n + 1) xc _ (by omega) (.inr (.inr hb1))).mono ?_
          rintro r w3 ⟨rfl, rfl⟩
          go_wp2_with fail
          refine bodyPost_ret (results_tmp2 rfl _ _ _) rfl ?_
          rw [HL0.out (by rw [HE1.out]; decide), HE1.out]
          exact BodPost.none (by rw [← HAe.out]; exact E2.out)
        · by_cases hb2 : 32 < m
          · have HE1 : Kp (bodE kind bl most = 8) := ⟨by rw [HE.out, if_neg hb1, if_pos hb2]⟩
            go_wp2_with fail
            refine (rsplit_many id sz (n + 1) xa xc _ (by have := HSZ.out; omega) (by omega) (by rw [← HM.out]; exact hb2)).mono ?_
            rintro r w3 ⟨rfl, rfl⟩
            go_wp2_with fail
            refine bodyPost_ret (results_tmp2 rfl _ _ _) rfl ?_
            rw [HL0.out (by rw [HE1.out]; decide), HE1.out]
            exact BodPost.none (by rw [← HAe.out]; exact E2.out)
          · have HE1 : Kp (bodE kind bl most = 0) := ⟨by rw [HE.out, if_neg hb1, if_neg hb2]⟩
            have HSP := Kp.mk (rsplit_any id sz _ (kind :: bl) _ HX.out (by have := HSZ.out; omega) (by rw [HLA.out]; omega) (by rw [HLA.out, ← HM.out]; omega) (fun k hk => by rw [HLA.out] at hk ⊢; exact manyN_lt hk))
            rw [HLA.out, ← HM.out] at HSP
            have HM32 : Kp (m ≤ 32) := ⟨by omega⟩
            clear hb1 hb2
            go_wp2_with fail
            refine HSP.out.mono ?_
            rintro r w3 ⟨vp, l, rfl, hb, hP, hlm, hall⟩
            have E3 : Kp (Below A w w3) := ⟨E2.out.trans (hb.mono Z2.out)⟩
            have Z3 : Kp (A ≤ w3.heap.size) := ⟨Nat.le_trans Z2.out hb.size⟩
            have HP := Kp.mk hP
            have HALL := Kp.mk hall
            have HLM := Kp.mk hlm
            obtain ⟨S, hS⟩ : ∃ S, S = w3.heap.size := ⟨_, rfl⟩
            have HSe := Kp.mk hS
            have hm9 : m ≤ 9223372036854775807 := by have := HM32.out; omega
            clear hb hP hall hlm HX HSP E2 Z2 hS
            obtain ⟨vpa, vpc, rfl⟩ : ∃ a c, vp = .slice a m c := by
              rcases HP.out.r.2 with ⟨h9, h8⟩ | ⟨g, cap, cur, h9, _⟩
              · rw [h9, ← HLM.out, h8]; exact ⟨_, _, rfl⟩
              · rw [h9, HLM.out]; exact ⟨_, _, rfl⟩
            go_wp2_with fail
            go_loopw [13, 14, 15] (fun v c _ wr => ∃ (i : Nat) (L : List BdV), i ≤ m ∧ c = .int .i64 i ∧ Kp (L.length = i) ∧ Kp (wr.ownsRow S 60 2 v i (L.flatMap bdc)) ∧ Kp (∀ x ∈ L, HoldsT wr x.v x.l) ∧ Kp (L.map (fun x => (x.k, x.l)) = pieceTs id (kind :: bl) sz m i) ∧ Kp (Below S w3 wr)) (fun _ c _ _ => m - (intOf c).toNat)
            case atStart => exact ⟨0, [], by omega, rfl, ⟨rfl⟩, ⟨World.ownsRow_nil _ _ _ _⟩, ⟨fun x hx => by cases hx⟩, ⟨rfl⟩, ⟨Below.refl _ _⟩⟩
            case round =>
              obtain ⟨i, L, hi, rfl, HLL, HO, HT, HMP, F0⟩ := hrel
              by_cases hlt : i < m
              · have t1 : (i : Int) < m := by omega
                have HLT := Kp.mk hlt
                have HPW := HP.out.keep (by rw [← HSe.out]; exact F0.out)
                obtain ⟨lb, lc, e9, -, -, hr⟩ := HPW.at (i := i) (by rw [HLM.out]; exact hlt)
                rw [HLM.out] at e9
                cases e9
                obtain ⟨q1, q2, q3, q4⟩ := HALL.out i _ (List.getElem?_eq_getElem (by rw [HLM.out]; exact hlt))
                have hH := HPW.text (List.getElem_mem (by rw [HLM.out]; exact hlt))
                obtain ⟨pa, pn, pc, e5, e6⟩ := hH.slice
                unfold pcc at hr
                rw [q1, q2, q3, e5, e6, q4] at hr
                rw [e5, e6, q4] at hH
                have HR := Kp.mk hr
                have HH := Kp.mk hH
                clear q1 q2 q3 q4 e5 e6 HPW
                have HPL : Kp ((pieceL (kind :: bl) sz i).length ≤ 4096) := ⟨by have := pieceL_len (bl := kind :: bl) (sz := sz) (k := i); have := HSZ.out; omega⟩
                obtain ⟨pl, hpl⟩ : ∃ pl, pl = (pieceL (kind :: bl) sz i).length := ⟨_, rfl⟩
                rw [← hpl] at HR HH HPL
                clear hr hH hpl hlt
                go_wp2_with (refine wpList_load_mid rfl 109 (.tmp 64) rfl lb (i * 4) rfl [.int .u32 id, .int .i64 i, .int .i64 m, .slice pa pl pc] _ HR.out Try.underlying109 rfl (by kernel_rfl) ?_)
                refine (rputN_good ⟨id, i, m, pa, pl, pc⟩ (pieceL (kind :: bl) sz i) _ HH.out (by unfold rightB; have := HM32.out; have := HPL.out; simp; omega) HID.out).mono ?_
                rintro r w4 ⟨v', rfl, hT, hb⟩
                have F1 : Kp (Below S w3 w4) := ⟨F0.out.trans (hb.mono (by rw [HSe.out]; exact F0.out.size))⟩
                have Z1 : Kp (S ≤ w4.heap.size) := ⟨by rw [HSe.out]; exact F1.out.size⟩
                have HW1 : Kp (Below wr.heap.size wr w4) := ⟨hb⟩
                have HO1 := Kp.mk (ownsRow_below HO.out HW1.out)
                have HT1 : Kp (∀ x ∈ L, HoldsT w4 x.v x.l) := ⟨fun x hx => (HT.out x hx).grow HW1.out⟩
                have HN1 : Kp (HoldsT w4 v' (pieceT id (kind :: bl) sz m i)) := ⟨hT⟩
                clear hT hb HO HT HW1 F0 HR HH
                obtain ⟨va, vn, vc, rfl, -⟩ := HN1.out.1.slice
                go_wp2_with (at_builtin; refine wpList_append_own _ rfl _ _ 55 rfl S 60 i0 (.agg #[.int .i64 0, .slice none 0 0]) 2 32 Try.underlying55 hi0 hz0 hz1 hz2 rfl (by decide) _ i (L.flatMap bdc) rfl (HO1.out.alloc _) ⟨w4.heap.size, 0, none⟩ 1 1 [.int .i64 4, .slice va vn vc] rfl rfl ?c1 ?c2 ?c3 ?c4 ?c5 ?_)
                case c1 =>
                  intro j u hj
                  match j, hj with
                  | 0, hj => simp at hj; subst hj; simp [Addr.add]
                  | 1, hj => simp at hj; subst hj; simp [Addr.add]
                case c2 =>
                  intro u hu
                  simp at hu
                  rcases hu with rfl | rfl <;> rfl
                case c3 => have := HM32.out; have := HLT.out; unfold maxLen; omega
                case c4 => have := HM32.out; have := HLT.out; omega
                case c5 => have := Z1.out; simp; omega
                · intro v' w5 hown' hgrow _
                  have HA5 : Kp (∀ x ∈ L ++ [(⟨4, .slice va vn vc, pieceT id (kind :: bl) sz m i⟩ : BdV)], HoldsT w5 x.v x.l) := ⟨fun x hx => by
                    have hx4 : HoldsT (w4.alloc (.cells #[.int .i64 4, .slice va vn vc] 60)) x.v x.l := by
                      rcases List.mem_append.1 hx with hx | hx
                      · exact (HT1.out x hx).grow (more (Below.refl _ _) _)
                      · simp at hx; subst hx; exact HN1.out.grow (more (Below.refl _ _) _)
                    exact hx4.grown (HO1.out.alloc _) (by decide) hgrow⟩
                  have F5 : Kp (Below S w3 w5) := ⟨below_row_grown (F1.out.alloc Z1.out _) (by have := Z1.out; simp; omega) (HO1.out.alloc _) hgrow⟩
                  have HO5 : Kp (w5.ownsRow S 60 2 v' (i + 1) ((L ++ [(⟨4, .slice va vn vc, pieceT id (kind :: bl) sz m i⟩ : BdV)]).flatMap bdc)) := ⟨by rw [← bdc_snoc]; exact hown'⟩
                  have HM5 : Kp ((L ++ [(⟨4, .slice va vn vc, pieceT id (kind :: bl) sz m i⟩ : BdV)]).map (fun x => (x.k, x.l)) = pieceTs id (kind :: bl) sz m (i + 1)) := ⟨by rw [List.map_append, HMP.out, pieceTs_snoc]; rfl⟩
                  clear hown' hgrow
                  go_wp2_with fail
                  exact ⟨⟨i + 1, _, by have := HLT.out; omega, by go_num, ⟨by rw [List.length_append, HLL.out]; rfl⟩, HO5, HA5, HM5, F5⟩, by have := HLT.out; simp [intOf]; omega⟩
              · obtain rfl : i = m := by omega
                go_wp2_with fail
                refine bodyPost_ret (results_tmp2 rfl _ _ _) rfl ?_
                rw [HL.out HE1.out, HE1.out]
                exact ⟨_, L, rfl, by rw [← HAe.out]; exact E3.out.trans (F0.out.mono (by rw [HSe.out]; exact Z3.out)), by rw [← HAe.out, HLL.out]; exact ownsRow_base HO.out (by rw [HSe.out]; exact Z3.out), fun x hx => (HT.out x hx).1, HMP.out⟩
end Go.Proofs.Ytioeaknhcfkfcaa

namespace Go.Proofs.Ytioeaknhcfkfcaa
open Go.RowKit

def whE (bl : List Int) : Int := if bl.length = 0 then 9 else if wholeB (bl.getD 0 0) = true then 0 else 10
def whK (bl : List Int) : Int := if whE bl = 0 then bl.getD 0 0 else 0
def whT (bl : List Int) : List Int := if whE bl = 0 then bl.drop 1 else []
def WholePost (bl : List Int) (w : World) (r : Ending) (w' : World) : Prop :=
  ∃ a n c, r = .returned (.tuple #[.int .i64 (whK bl), .slice a n c, .int .i64 (whE bl)]) ∧ HoldsB w' w'.heap.size (.slice a n c) (whT bl) ∧ Below w.heap.size w w'
theorem wh_none {bl : List Int} (h : bl.length = 0) : whE bl = 9 ∧ whK bl = 0 ∧ whT bl = [] := by
  have e : whE bl = 9 := by unfold whE; rw [if_pos h]
  exact ⟨e, by unfold whK; rw [e]; rfl, by unfold whT; rw [e]; rfl⟩
theorem wh_bad {bl : List Int} (h : bl.length ≠ 0) (h2 : wholeB (bl.getD 0 0) = false) : whE bl = 10 ∧ whK bl = 0 ∧ whT bl = [] := by
  have e : whE bl = 10 := by unfold whE; rw [if_neg h, if_neg (by rw [h2]; simp)]
  exact ⟨e, by unfold whK; rw [e]; rfl, by unfold whT; rw [e]; rfl⟩
theorem wh_good {bl : List Int} (h : bl.length ≠ 0) (h2 : wholeB (bl.getD 0 0) = true) : whE bl = 0 ∧ whK bl = bl.getD 0 0 ∧ whT bl = bl.drop 1 := by
  have e : whE bl = 0 := by unfold whE; rw [if_neg h, if_pos h2]
  exact ⟨e, by unfold whK; rw [e]; rfl, by unfold whT; rw [e]; rfl⟩
theorem HoldsB.tail1 {w : World} {M b off n cap : Nat} {l : List Int} (h : HoldsB w M (.slice (some ⟨b, off, none⟩) n cap) l) (h0 : 0 < l.length) :
    HoldsB w M (.slice (if cap = 1 then some ⟨b, off, none⟩ else some ⟨b, off + 1, none⟩) (n - 1) (cap - 1)) (l.drop 1) := by
  obtain ⟨a', cap', h1, h2, h3, h4, h5, h6, h7⟩ := h
  cases h1
  obtain ⟨q1, q2, q3⟩ := h5 _ rfl h0
  refine ⟨_, cap - 1, by rw [List.length_drop], by rw [List.length_drop]; omega, by omega, fun e => ?_, fun x hx hl => ?_, fun x i hx hi => ?_, h7.drop 1⟩
  · split at e <;> cases e
  · split at hx <;> cases hx <;> exact ⟨rfl, q2, q3⟩
  · rw [List.length_drop] at hi
    rw [if_neg (by omega)] at hx
    cases hx
    have := h6 _ (i + 1) rfl (by omega)
    rw [show (l.drop 1).getD i 0 = l.getD (i + 1) 0 by rw [drop_getD, Nat.add_comm]]
    rw [← this]
    simp only [Nat.add_assoc, Nat.add_comm 1 i]
set_option maxHeartbeats 3200000 in
theorem whole_any (v : Value) (bl : List Int) (w : World) (h : HoldsB w w.heap.size v bl) (hl : bl.length ≤ 20000) : Calls Try.prog 17 #[v] w (WholePost bl w) := by
  have H := Kp.mk h
  obtain ⟨a, n, cap, rfl, hn⟩ := h.slice
  have HN := Kp.mk hn
  have hn2 : n ≤ 20000 := by omega
  clear h hl
  by_cases h0 : n = 0
  · have HE := Kp.mk (wh_none (bl := bl) (by omega))
    subst h0
    clear hn
    go_enter Try.func17, Try.ntmps17
    go_wp2_with fail
    refine bodyPost_ret (v := .tuple #[.int .i64 0, .slice none 0 0, .int .i64 9]) (by simp [results, Try.results17, go_sem]) rfl ?_
    unfold WholePost
    rw [HE.out.1, HE.out.2.1, HE.out.2.2]
    exact ⟨_, _, _, rfl, HoldsB.nil _ _, Below.refl _ _⟩
  · obtain ⟨b, off, rfl, -, hc⟩ := H.out.cellAt (i := 0) (by omega)
    have hx := H.out.bytes.at (i := 0) (by omega)
    have H0 : Kp (bl.length ≠ 0) := ⟨by omega⟩
    have HG := Kp.mk (wh_good (bl := bl) H0.out)
    have HB := Kp.mk (wh_bad (bl := bl) H0.out)
    have HTL := Kp.mk (H.out.tail1 (by omega))
    have n1 : (0 : Int) < n := by omega
    have n2 : (1 : Int) ≤ n := by omega
    have hnn : ¬ n = 0 := h0
    have hnb : ((n : Int) == 0) = false := by simp; omega
    have hw : IntKind.i64.wrap (bl.getD 0 0) = bl.getD 0 0 := IntWalk.i64_in _ (by omega)
    have HLL : Kp ((bl.drop 1).length ≤ 140737488351232) := ⟨by rw [List.length_drop]; omega⟩
    clear hn h0
    generalize bl.getD 0 0 = x at hc hx HG HB hw
    simp only [Nat.add_zero] at hc
    by_cases hcp : cap = 1
    case' pos => subst hcp; rw [if_pos rfl] at HTL; simp only [Nat.sub_self] at HTL
    case' neg => rw [if_neg hcp] at HTL
    all_goals
      have HX := Kp.mk hx
      cases hwx : wholeB x with
      | false =>
        have HE := Kp.mk (HB.out hwx)
        have HWX := Kp.mk hwx
        clear hwx HG HB hx
        go_enter Try.func17, Try.ntmps17
        go_wp2_with fail
        refine (isWhole_any x _).mono ?_
        rintro r w1 ⟨rfl, rfl⟩
        rw [HWX.out]
        go_wp2_with fail
        refine bodyPost_ret (v := .tuple #[.int .i64 0, .slice none 0 0, .int .i64 10]) (by simp [results, Try.results17, go_sem]) rfl ?_
        unfold WholePost
        rw [HE.out.1, HE.out.2.1, HE.out.2.2]
        exact ⟨_, _, _, rfl, HoldsB.nil _ _, Below.refl _ _⟩
      | true =>
        have HE := Kp.mk (HG.out hwx)
        have HWX := Kp.mk hwx
        clear hwx HG HB hx
        go_enter Try.func17, Try.ntmps17
        go_wp2_with fail
        refine (isWhole_any x _).mono ?_
        rintro r w1 ⟨rfl, rfl⟩
        rw [HWX.out]
        go_wp2_with fail
        refine (clone_any _ _ (bl.drop 1) _ HTL.out HLL.out).mono ?_
        rintro r w2 ⟨v', rfl, ho, hb⟩
        have HO := Kp.mk (HoldsB.ofRow HTL.out.bytes ho)
        have E := Kp.mk hb
        clear ho hb
        obtain ⟨va, vn, vc, rfl, -⟩ := HO.out.slice
        go_wp2_with fail
        refine bodyPost_ret (v := .tuple #[.int .i64 x, .slice va vn vc, .int .i64 0]) (by simp [results, Try.results17, go_sem]) rfl ?_
        unfold WholePost
        rw [HE.out.1, HE.out.2.1, HE.out.2.2]
        exact ⟨_, _, _, rfl, HO.out, E.out⟩
set_option maxHeartbeats 3200000 in
theorem rwhole_any (v : Value) (bl : List Int) (w : World) (h : HoldsB w w.heap.size v bl) (hl : bl.length ≤ 20000) : Calls Try.prog 18 #[v] w (WholePost bl w) := by
  have H := Kp.mk h
  obtain ⟨a, n, cap, rfl, hn⟩ := h.slice
  have HN := Kp.mk hn
  have hn2 : n ≤ 20000 := by omega
  clear h hl
  by_cases h0 : n = 0
  · have HE := Kp.mk (wh_none (bl := bl) (by omega))
    subst h0
    clear hn
    go_enter Try.func18, Try.ntmps18
    go_wp2_with fail
    refine bodyPost_ret (v := .tuple #[.int .i64 0, .slice none 0 0, .int .i64 9]) (by simp [results, Try.results18, go_sem]) rfl ?_
    unfold WholePost
    rw [HE.out.1, HE.out.2.1, HE.out.2.2]
    exact ⟨_, _, _, rfl, HoldsB.nil _ _, Below.refl _ _⟩
  · obtain ⟨b, off, rfl, -, hc⟩ := H.out.cellAt (i := 0) (by omega)
    have hx := H.out.bytes.at (i := 0) (by omega)
    have H0 : Kp (bl.length ≠ 0) := ⟨by omega⟩
    have HG := Kp.mk (wh_good (bl := bl) H0.out)
    have HB := Kp.mk (wh_bad (bl := bl) H0.out)
    have HTL := Kp.mk (H.out.tail1 (by omega))
    have n1 : (0 : Int) < n := by omega
    have n2 : (1 : Int) ≤ n := by omega
    have hnn : ¬ n = 0 := h0
    have hnb : ((n : Int) == 0) = false := by simp; omega
    have hw : IntKind.i64.wrap (bl.getD 0 0) = bl.getD 0 0 := IntWalk.i64_in _ (by omega)
    clear hn h0
    generalize bl.getD 0 0 = x at hc hx HG HB hw
    simp only [Nat.add_zero] at hc
    by_cases hcp : cap = 1
    case' pos => subst hcp; rw [if_pos rfl] at HTL; simp only [Nat.sub_self] at HTL
    case' neg => rw [if_neg hcp] at HTL
    all_goals
      by_cases hw1 : x < 1
      · have HE := Kp.mk (HB.out (by simp [wholeB]; omega))
        clear HG HB
        go_enter Try.func18, Try.ntmps18
        go_wp2_with fail
        refine bodyPost_ret (v := .tuple #[.int .i64 0, .slice none 0 0, .int .i64 10]) (by simp [results, Try.results18, go_sem]) rfl ?_
        unfold WholePost
        rw [HE.out.1, HE.out.2.1, HE.out.2.2]
        exact ⟨_, _, _, rfl, HoldsB.nil _ _, Below.refl _ _⟩
      · by_cases hw3 : 3 < x
        · have HE := Kp.mk (HB.out (by simp [wholeB]; omega))
          clear HG HB
          go_enter Try.func18, Try.ntmps18
          go_wp2_with fail
          refine bodyPost_ret (v := .tuple #[.int .i64 0, .slice none 0 0, .int .i64 10]) (by simp [results, Try.results18, go_sem]) rfl ?_
          unfold WholePost
          rw [HE.out.1, HE.out.2.1, HE.out.2.2]
          exact ⟨_, _, _, rfl, HoldsB.nil _ _, Below.refl _ _⟩
        · have HE := Kp.mk (HG.out (by simp [wholeB]; omega))
          clear HG HB
          go_enter Try.func18, Try.ntmps18
          go_wp2_with fail
          go_quiet (fail)
          go_wp2_with fail
          refine bodyPost_ret (v := .tuple #[.int .i64 x, _, .int .i64 0]) (by simp [results, Try.results18, go_sem]; rfl) rfl ?_
          unfold WholePost
          rw [HE.out.1, HE.out.2.1, HE.out.2.2]
          exact ⟨_, _, _, rfl, HTL.out.keep ⟨rfl, rfl, rfl, Nat.le_refl _, fun _ _ => rfl⟩, ⟨rfl, by simp, rfl, Nat.le_refl _, fun _ _ => rfl⟩⟩
end Go.Proofs.Ytioeaknhcfkfcaa

namespace Go.Proofs.Ytioeaknhcfkfcaa
open Go.RowKit

theorem bdc_at : ∀ (L : List BdV) (i : Nat) (hi : i < L.length), (L.flatMap bdc)[i * 2]? = some (.int .i64 L[i].k) ∧ (L.flatMap bdc)[i * 2 + 1]? = some L[i].v
  | [], i, hi => absurd hi (by simp)
  | x :: t, 0, _ => ⟨rfl, rfl⟩
  | x :: t, i + 1, hi => by
    have h := bdc_at t i (by simpa using hi)
    rw [List.flatMap_cons, show (i + 1) * 2 = i * 2 + 2 by omega, show i * 2 + 2 + 1 = i * 2 + 1 + 2 by omega]
    rw [List.getElem?_append_right (by simp [bdc]), List.getElem?_append_right (by simp [bdc])]
    simpa [bdc] using h
/-- A row of bodies. -/
structure BRow (w : World) (e : TypeId) (v : Value) (L : List BdV) : Prop where
  r : ∃ A, w.ownsRow A e 2 v L.length (L.flatMap bdc)
  t : ∀ x ∈ L, HoldsB w w.heap.size x.v x.l
theorem BRow.keep {w w' : World} {e : TypeId} {v : Value} {L : List BdV} (h : BRow w e v L) (hb : Below w.heap.size w w') : BRow w' e v L := by
  obtain ⟨A, hr⟩ := h.r
  exact ⟨⟨A, ownsRow_below hr hb⟩, fun x hx => (h.t x hx).grow hb⟩
theorem BRow.shape {w : World} {e : TypeId} {v : Value} {L : List BdV} (h : BRow w e v L) : ∃ a c, v = .slice a L.length c := by
  obtain ⟨A, hr⟩ := h.r
  rcases hr.2 with ⟨h9, h8⟩ | ⟨g, cap, cur, h9, _⟩
  · rw [h8]; exact ⟨_, _, h9⟩
  · exact ⟨_, _, h9⟩
theorem BRow.at {w : World} {e : TypeId} {a : Option Addr} {n c : Nat} {L : List BdV} (h : BRow w e (.slice a n c) L) {i : Nat} (hi : i < L.length) :
    ∃ g ta tn tc, a = some ⟨g, 0, none⟩ ∧ w.cell? ⟨g, i * 2, none⟩ = some (.int .i64 L[i].k) ∧ w.cell? ⟨g, i * 2 + 1, none⟩ = some (.slice ta tn tc) ∧ HoldsB w w.heap.size (.slice ta tn tc) L[i].l := by
  obtain ⟨A, hr⟩ := h.r
  have ht := h.t _ (List.getElem_mem hi)
  obtain ⟨ta, tn, tc, e5, _⟩ := ht.slice
  obtain ⟨h1, h2⟩ := bdc_at L i hi
  rcases hr.2 with ⟨h9, h8⟩ | ⟨g, cap, cur, h9, _⟩
  · omega
  · cases h9
    refine ⟨g, ta, tn, tc, rfl, ?_, ?_, by rw [← e5]; exact ht⟩
    · rw [hr.cellAt (i * 2) (by omega)]; exact h1
    · rw [hr.cellAt (i * 2 + 1) (by omega), h2, e5]
theorem BRow.len {w : World} {e : TypeId} {v : Value} {L : List BdV} (h : BRow w e v L) : L.length ≤ maxLen := by
  obtain ⟨A, hr⟩ := h.r
  rcases hr.2 with ⟨h9, h8⟩ | ⟨g, cap, cur, h9, _, _, h1, h2, _⟩
  · rw [h8]; unfold maxLen; omega
  · omega
theorem same_at {L1 L2 : List BdV} (h : L1.map (fun x => (x.k, x.l)) = L2.map (fun x => (x.k, x.l))) : L1.length = L2.length ∧ ∀ i (h1 : i < L1.length) (h2 : i < L2.length), L1[i].k = L2[i].k ∧ L1[i].l = L2[i].l := by
  have hl : L1.length = L2.length := by have := congrArg List.length h; simpa using this
  refine ⟨hl, fun i h1 h2 => ?_⟩
  have := congrArg (fun l => l[i]?) h
  simpa [h1, h2] using this
theorem aw_e : bodE 1 [3] 16 = 0 := by decide
theorem aw_l : bodL 1 1 [3] 16 = [(1, [3])] := by decide
set_option maxHeartbeats 3200000 in
theorem awake_any (w : World) : Calls Try.prog 6 #[] w fun r w' => r = .returned (.bool true) ∧ Below w.heap.size w w' := by
  have HX : Kp (HoldsB (w.alloc (.cells #[.int .u8 3] 5)) (w.alloc (.cells #[.int .u8 3] 5)).heap.size (.slice (some ⟨w.heap.size, 0, none⟩) 1 1) [3]) :=
    ⟨HoldsB.ofRow (fun x hx => by simp at hx; omega) (ownsRow_oneB (B := 0) (Nat.zero_le _) (Blk.new _ _))⟩
  go_enter Try.func6, Try.ntmps6
  go_wp2_with fail
  refine (bodies_any 1 1 16 _ [3] _ HX.out (by decide) (by decide)).mono ?_
  rw [aw_e, aw_l]
  rintro r w1 ⟨v, L, rfl, hb, ho, ht, hm⟩
  have E : Kp (Below w.heap.size w w1) := ⟨(more (Below.refl _ _) _).trans (hb.mono (by simp))⟩
  have HR := Kp.mk (BRow.mk ⟨_, ho⟩ ht)
  clear hb ho ht
  have hl : L.length = 1 := by simpa using congrArg List.length hm
  obtain ⟨x, rfl⟩ := List.length_eq_one_iff.1 hl
  have hk : x.k = 1 := by simp at hm; exact hm.1
  obtain ⟨a, c, rfl⟩ := HR.out.shape
  obtain ⟨g, ta, tn, tc, rfl, c0, _, _⟩ := HR.out.at (i := 0) (by simp)
  rw [show ([x] : List BdV)[0].k = 1 from hk] at c0
  clear hm hk hl
  go_wp2_with fail
  go_ret
  exact ⟨rfl, E.out⟩
set_option maxRecDepth 100000 in
set_option maxHeartbeats 12800000 in
theorem buildBodies_walk (kind id : Int) (a : Option Addr) (n cap : Nat) (bl : List Int) (most : Int) (w : World) (_wk : (Lit.int .i64 kind).wf = true) (wi : (Lit.int .u32 id).wf = true) (h : HoldsB w w.heap.size (.slice a n cap) bl) (_wm : (Lit.int .i64 most).wf = true) :
    Calls Try.prog 5 #[.int .i64 kind, .int .u32 id, .slice a n cap, .int .i64 most] w fun r w' => r = .returned (.bool true) ∧ Below w.heap.size w w' := by
  have hid : 0 ≤ id ∧ id ≤ 4294967295 := by simpa [Lit.wf, IntKind.min, IntKind.max, IntKind.signed, IntKind.bits] using wi
  have hn : n = bl.length := by obtain ⟨a1, n1, c1, e1, e2⟩ := h.slice; simp only [Value.slice.injEq] at e1; omega
  have hnm : n ≤ 9223372036854775807 := by have := h.len; unfold maxLen at this; omega
  have H := Kp.mk h
  have HN := Kp.mk hn
  have HID := Kp.mk hid
  obtain ⟨M, hM⟩ : ∃ M, M = w.heap.size := ⟨_, rfl⟩
  rw [← hM] at H ⊢
  have HM := Kp.mk hM
  clear _wk wi h _wm hn hid hM
  by_cases hl : 20000 < n
  · go_enter Try.func5, Try.ntmps5
    go_wp2_with fail
    refine (awake_any _).mono ?_
    rintro r w1 ⟨rfl, hb⟩
    have E := Kp.mk hb
    clear hb
    go_wp2_with fail
    go_ret
    exact ⟨rfl, by rw [HM.out]; exact E.out⟩
  · have HL : Kp (bl.length ≤ 20000) := ⟨by rw [← HN.out]; omega⟩
    have hl2 : (n : Int) ≤ 20000 := by omega
    go_enter Try.func5, Try.ntmps5
    go_wp2_with fail
    refine (bodies_any kind id most _ bl _ (by rw [← HM.out]; exact H.out) HL.out HID.out).mono ?_
    rintro r w1 ⟨v1, L1, rfl, hb, ho, ht, hm1⟩
    have E1 : Kp (Below M w w1) := ⟨by rw [HM.out]; exact hb⟩
    have Z1 : Kp (M ≤ w1.heap.size) := ⟨by rw [HM.out]; exact hb.size⟩
    have R1 := Kp.mk (BRow.mk ⟨_, ho⟩ ht)
    have M1 := Kp.mk hm1
    clear hb ho ht hm1
    have H1 : Kp (HoldsB w1 w1.heap.size (.slice a n cap) bl) := ⟨(H.out.keep (by rw [← HM.out]; exact E1.out)).mono Z1.out⟩
    go_wp2_with fail
    refine (rbodies_any kind id most _ bl _ H1.out HL.out HID.out).mono ?_
    rintro r w2 ⟨v2, L2, rfl, hb, ho, ht, hm2⟩
    have E2 : Kp (Below M w w2) := ⟨E1.out.trans (hb.mono Z1.out)⟩
    have Z2 : Kp (M ≤ w2.heap.size) := ⟨Nat.le_trans Z1.out hb.size⟩
    replace R1 := Kp.mk (R1.out.keep hb)
    have R2 := Kp.mk (BRow.mk ⟨_, ho⟩ ht)
    have HS := Kp.mk (same_at (M1.out.trans hm2.symm))
    clear hb ho ht hm2 M1 H1 E1 Z1
    have hee : (bodE kind bl most != bodE kind bl most) = false := by simp
    generalize bodE kind bl most = er at hee
    go_wp2_with fail
    refine (awake_any _).mono ?_
    rintro r w3 ⟨rfl, hb⟩
    have E3 : Kp (Below M w w3) := ⟨E2.out.trans (hb.mono Z2.out)⟩
    have Z3 : Kp (M ≤ w3.heap.size) := ⟨Nat.le_trans Z2.out hb.size⟩
    replace R1 := Kp.mk (R1.out.keep hb)
    replace R2 := Kp.mk (R2.out.keep hb)
    clear hb E2 Z2
    obtain ⟨p1, c1, rfl⟩ := R1.out.shape
    obtain ⟨p2, c2, rfl⟩ := R2.out.shape
    have HLL := Kp.mk HS.out.1
    rw [← HLL.out] at R2 ⊢
    obtain ⟨m, hm⟩ : ∃ m, m = L1.length := ⟨_, rfl⟩
    have hm9 : m ≤ 9223372036854775807 := by rw [hm]; have := R1.out.len; unfold maxLen at this; omega
    rw [← hm] at R1 R2 ⊢
    have HMM := Kp.mk hm
    have hmm : ((m : Int) != (m : Int)) = false := by simp
    clear hm
    go_wp2_with fail
    obtain ⟨w0, hw0⟩ : ∃ w0, w0 = w3 := ⟨_, rfl⟩
    have R1' : Kp (BRow w0 59 (.slice p1 m c1) L1) := ⟨by rw [hw0]; exact R1.out⟩
    have R2' : Kp (BRow w0 60 (.slice p2 m c2) L2) := ⟨by rw [hw0]; exact R2.out⟩
    have W0 : Kp (∃ k, w3 = w0.drewN k) := ⟨0, hw0.symm⟩
    have E0 : Kp (Below M w w0) := ⟨by rw [hw0]; exact E3.out⟩
    have Z0 : Kp (M ≤ w0.heap.size) := ⟨by rw [hw0]; exact Z3.out⟩
    clear R1 R2 hw0 E3 Z3
    go_loopw [13, 56] (fun _ c wr => ∃ i : Nat, i ≤ m ∧ c = .int .i64 i ∧ Kp (∃ k, wr = w0.drewN k)) (fun _ c _ => m - (intOf c).toNat)
    case atStart => exact ⟨0, by omega, rfl, W0⟩
    case round =>
      clear W0
      obtain ⟨i, hi, rfl, ⟨k, rfl⟩⟩ := hrel
      by_cases hlt : i < m
      · have t1 : (i : Int) < m := by omega
        have HLT := Kp.mk hlt
        have hi1 : i < L1.length := by rw [← HMM.out]; exact hlt
        have hi2 : i < L2.length := by rw [← HLL.out, ← HMM.out]; exact hlt
        obtain ⟨q1, q2⟩ := HS.out.2 i hi1 hi2
        obtain ⟨g1, a1, n1, k1, rfl, x1, y1, z1⟩ := R1'.out.at hi1
        obtain ⟨g2, a2, n2, k2, rfl, x2, y2, z2⟩ := R2'.out.at hi2
        rw [← q1] at x2
        rw [← q2] at z2
        have s1 : ∀ j, (convert 39 9 (.slice a1 n1 k1)).run Try.prog (w0.drewN j) = .ok (.string (strOfNums L1[i].l)) (w0.drewN j) := fun j => ((z1.keep (below_drewN (Below.refl w0.heap.size w0) j))).text
        have s2 : ∀ j, (convert 39 9 (.slice a2 n2 k2)).run Try.prog (w0.drewN j) = .ok (.string (strOfNums L1[i].l)) (w0.drewN j) := fun j => ((z2.keep (below_drewN (Below.refl w0.heap.size w0) j))).text
        clear q1 q2 z1 z2 hlt
        generalize L1[i].k = kk at x1 x2
        generalize strOfNums L1[i].l = ss at s1 s2
        have e1 : (kk != kk) = false := by simp
        have e2 : (ss.toList == ss.toList) = true := by simp
        go_wp2_with fail
        go_quiet (fail)
        go_wp2_with fail
        exact ⟨⟨i + 1, by have := HLT.out; omega, by go_num, ⟨_, rfl⟩⟩, by have := HLT.out; simp [intOf]; omega⟩
      · obtain rfl : i = m := by omega
        have E4 : Kp (Below M w (w0.drewN k)) := ⟨E0.out.trans ((below_drewN (Below.refl w0.heap.size w0) k).mono Z0.out)⟩
        have Z4 : Kp (M ≤ (w0.drewN k).heap.size) := ⟨Z0.out⟩
        clear R1' R2' E0 Z0
        generalize w0.drewN k = w4 at E4 Z4 ⊢
        go_wp2_with fail
        refine (whole_any _ bl _ ((H.out.keep (by rw [← HM.out]; exact E4.out)).mono Z4.out) HL.out).mono ?_
        rintro r w5 ⟨a5, n5, c5, rfl, h5, hb⟩
        have E5 : Kp (Below M w w5) := ⟨E4.out.trans (hb.mono Z4.out)⟩
        have Z5 : Kp (M ≤ w5.heap.size) := ⟨Nat.le_trans Z4.out hb.size⟩
        have H5 := Kp.mk h5
        clear hb h5 E4 Z4
        go_wp2_with fail
        refine (rwhole_any _ bl _ ((H.out.keep (by rw [← HM.out]; exact E5.out)).mono Z5.out) HL.out).mono ?_
        rintro r w6 ⟨a6, n6, c6, rfl, h6, hb⟩
        have E6 : Kp (Below M w w6) := ⟨E5.out.trans (hb.mono Z5.out)⟩
        have s5 := (H5.out.grow hb).text
        have s6 := h6.text
        clear hb h6 E5 Z5 H5
        generalize strOfNums (whT bl) = ss at s5 s6
        generalize whK bl = kk
        generalize whE bl = ee
        have e1 : (kk == kk) = true := by simp
        have e2 : (ss.toList == ss.toList) = true := by simp
        have e3 : (ee == ee) = true := by simp
        go_wp2_with fail
        go_ret
        exact ⟨rfl, E6.out⟩
end Go.Proofs.Ytioeaknhcfkfcaa

namespace Go.Proofs.Ytioeaknhcfkfcaa
open Go.ChangeShapes Go.WideShapes Go.ChangeAt Go.RowKit Go.Deep Go.Joins

theorem fitGo_same {u : Bool} {f g : Nat → E3} {most : Int} {N : Nat} (h : ∀ i, i < N → SameE (f i) (g i)) : ∀ k m, m + k ≤ N → fitGo u f most k m = fitGo u g most k m
  | 0, _, _ => rfl
  | k + 1, m, hm => by
    unfold fitGo
    rw [same_updX u (fun i hi => h i (by omega)) (n := m + 1), fitGo_same h k (m + 1) (by omega)]
theorem upds_same {u : Bool} {f g : Nat → E3} {most : Int} : ∀ n k, (∀ i, i < n → SameE (sh f k i) (sh g k i)) → upds u f most n k = upds u g most n k := by
  intro n
  induction n using Nat.strongRecOn with
  | ind n ih =>
    intro k h
    by_cases h0 : 0 < n
    · have hf : fit u (sh f k) n most = fit u (sh g k) n most := fitGo_same h (n - 1) 1 (by omega)
      have hm := fit_le (u := u) (f := sh g k) (most := most) h0
      rw [upds_pos u f most n k h0, upds_pos u g most n k h0, hf, same_updX u (fun i hi => h i (by omega)) (n := fit u (sh g k) n most)]
      rw [ih (n - fit u (sh g k) n most) (by omega) (k + fit u (sh g k) n most) (fun i hi => by
        have h9 := h (fit u (sh g k) n most + i) (by omega)
        unfold sh at h9 ⊢
        rw [Nat.add_assoc]
        exact h9)]
    · obtain rfl : n = 0 := by omega
      rw [upds_zero, upds_zero]
section
variable {H : Type} {enc : TypeId × Value → H} {W : World}
theorem row_entriesC {a : Option Addr} {len cap : Nat} {d : DataW H} {p : List MemPlace} (k : DataW.Trod enc Try.prog W 0 (fun _ => true) true 22 (.slice a len cap) d p) : ∃ f : Nat → E3, HoldsO W a len f ∧ len ≤ cap := by
  obtain ⟨n0, hf⟩ := k
  obtain ⟨f, h⟩ := row_entries hf
  refine ⟨f, h, ?_⟩
  rcases open_slice Try.underlying22 hf with ⟨hcs, _⟩ | ⟨x, l, c, m, n, D, Pl, hcs, hb, hl, hm, hmm, hx, hi⟩
  · replace hcs : [Value.slice a len cap] = [.slice none 0 0] := hcs
    simp at hcs
    omega
  · replace hcs : [Value.slice a len cap] = [.slice (some x) l c] := hcs
    simp at hcs
    obtain ⟨rfl, rfl, rfl⟩ := hcs
    exact hl
end
theorem TB.at {w : World} {A : Nat} {a : Option Addr} {n c : Nat} {L : List (Value × List Int)} (h : TB w A (.slice a n c) L) {i : Nat} (hi : i < L.length) :
    ∃ g ta tn tc, a = some ⟨g, 0, none⟩ ∧ w.cell? ⟨g, i, none⟩ = some (.slice ta tn tc) ∧ HoldsB w w.heap.size (.slice ta tn tc) L[i].2 := by
  have ht := (h.t _ (List.getElem_mem hi)).1
  obtain ⟨ta, tn, tc, e5, _⟩ := ht.slice
  rcases h.r.2 with ⟨h9, h8⟩ | ⟨g, cap, cur, h9, _⟩
  · omega
  · cases h9
    refine ⟨g, ta, tn, tc, rfl, ?_, by rw [← e5]; exact ht⟩
    have h7 := h.r.cellAt i (by omega)
    rw [h7, List.getElem?_map, List.getElem?_eq_getElem hi, ← e5]
    rfl
theorem TB.len {w : World} {A : Nat} {v : Value} {L : List (Value × List Int)} (h : TB w A v L) : L.length ≤ maxLen := by
  rcases h.r.2 with ⟨h9, h8⟩ | ⟨g, cap, cur, h9, _, _, h1, h2, _⟩
  · rw [h8]; unfold maxLen; omega
  · omega
theorem EOs.cap {W : World} {te t base : Nat} {a : Option Addr} {n c : Nat} {xs : List E3} (h : EOs W te t base (.slice a n c) xs) : n ≤ c := by
  have hl := ownsRow_len h.v
  rcases h.v.2 with ⟨h9, h8⟩ | ⟨g, cap, cur, h9, _, _, h1, h2, _⟩
  · simp only [Value.slice.injEq] at h9; omega
  · simp only [Value.slice.injEq] at h9; omega
/-- The law, on its way over the entries. -/
structure BU (w : World) (A : Nat) (a : Option Addr) (n : Nat) (f : Nat → E3) (W : World) : Prop where
  o : HoldsL W a n (fun i => (f i).1)
  below : Below A w W
  le : A ≤ W.heap.size
set_option maxRecDepth 100000 in
set_option maxHeartbeats 32000000 in
theorem buildUpdates_walk (a : Option Addr) (n c : Nat) (f : Nat → E3) (u : Bool) (most : Int) (w : World) (h : HoldsO w a n f ∧ n ≤ c) (_wm : (Lit.int .i64 most).wf = true) :
    Calls Try.prog 3 #[.slice a n c, .bool u, .int .i64 most] w fun r w' => r = .returned (.bool true) ∧ Below w.heap.size w w' := by
  obtain ⟨A, hA⟩ : ∃ A, A = w.heap.size := ⟨_, rfl⟩
  have HAe := Kp.mk hA
  have HO := Kp.mk h.1
  have HC := Kp.mk h.2
  have hn9 : n ≤ 9223372036854775807 := by have := h.1.m; unfold maxLen at this; omega
  have S0 : Kp (BU w A a n f w) := ⟨h.1.light, Below.refl _ _, by omega⟩
  clear h _wm
  by_cases h12 : 12 < n
  · clear hA
    go_enter Try.func3, Try.ntmps3
    go_wp2_with fail
    refine (awake_any _).mono ?_
    rintro r w1 ⟨rfl, hb⟩
    have E := Kp.mk hb
    clear hb
    go_wp2_with fail
    go_ret
    exact ⟨rfl, E.out⟩
  · have HN : Kp (n ≤ 12) := ⟨by omega⟩
    have hn12 : (n : Int) ≤ 12 := by omega
    clear h12 hA
    go_enter Try.func3, Try.ntmps3
    go_wp2_with fail
    go_loopw [18] (fun ct wr => ∃ i : Nat, i ≤ n ∧ ct = .int .i64 i ∧ Kp (BU w A a n f wr ∧ ∀ k, k < i → (f k).1.wn ≤ 20 ∧ (f k).1.pn ≤ 20)) (fun ct _ => n - (intOf ct).toNat)
    case atStart => exact ⟨0, by omega, rfl, S0.out, fun k hk => by omega⟩
    case round =>
      obtain ⟨i, hi, rfl, HS⟩ := hrel
      by_cases hlt : i < n
      · obtain ⟨b, off, rfl, hb1, k1⟩ := HS.out.1.o.c i hlt
        have HL := Kp.mk (HS.out.1.o.l i hlt)
        have HM := Kp.mk (HS.out.1.o.m i hlt)
        have HRG := Kp.mk k1
        obtain ⟨x, hx⟩ : ∃ x, x = (f i).1 := ⟨_, rfl⟩
        have HX := Kp.mk hx
        rw [← hx] at HL HM HRG
        have HIX := Kp.mk (info105s HL.out)
        have HLEN : Kp ((Try.prog.info? 32).map (·.size) = some (ec x).length) := ⟨by have := HIX.out; simpa using this⟩
        have HSZ : Kp ((ec x).toArray.size = 22) := ⟨by rw [List.size_toArray]; exact ec_len HL.out⟩
        have HC18 : Kp ((Try.prog.info? 30).map (·.size) = some (cc x.lf x.wa x.wn x.wc x.pa x.pn x.pc).length) := ⟨by rw [cc_len HL.out]; kernel_rfl⟩
        clear k1 hb1 hx
        go_wp2_with (first
          | (refine wpList_load_mid rfl 32 (.tmp 20) rfl b (off + i * 22) rfl (ec x) _ HRG.out Try.underlying32 rfl HLEN.out ?_)
          | (refine wpList_store_row rfl 32 (.tmp 8) (.tmp 21) rfl wr.heap.size (ec x).toArray rfl rfl 32 _ (Blk.newAt _ rfl) HIX.out (by rw [HSZ.out]; rfl) (ec_one x) ?_; refine wpl_world (fun W => BU w A (some ⟨b, off, none⟩) n f W ∧ Blk W wr.heap.size (.cells (ec x).toArray 32)) ⟨by rw [World.setRow_alloc_new]; exact ⟨HS.out.1.o.keep (more (Below.refl _ _) _), HS.out.1.below.alloc HS.out.1.le _, Nat.le_trans HS.out.1.le (by simp)⟩, by rw [World.setRow_alloc_new]; exact Blk.new _ _⟩ ?_; rintro W6 h6; have S6 := Kp.mk h6; clear h6)
          | (refine wpList_load_mid rfl 30 (.tmp 22) rfl wr.heap.size 4 rfl (cc x.lf x.wa x.wn x.wc x.pa x.pn x.pc) _ (ec_cred (ec_range S6.out.2)) Try.underlying30 rfl HC18.out ?_))
        refine (light7_any x.lf x.wa x.wn x.wc x.pa x.pn x.pc W6 HL.out HM.out.1 HM.out.2).mono ?_
        rintro r w7 ⟨rfl, hb⟩
        have S7 : Kp (BU w A (some ⟨b, off, none⟩) n f w7) := ⟨⟨S6.out.1.o.keep hb, S6.out.1.below.trans (hb.mono S6.out.1.le), Nat.le_trans S6.out.1.le hb.size⟩⟩
        clear hb S6 HRG
        by_cases hlg : x.wn ≤ 20 ∧ x.pn ≤ 20
        · rw [show decide (x.wn ≤ 20 ∧ x.pn ≤ 20) = true from decide_eq_true hlg]
          have HLG : Kp (∀ k, k < i + 1 → (f k).1.wn ≤ 20 ∧ (f k).1.pn ≤ 20) := ⟨fun k hk => by
            by_cases hk2 : k < i
            · exact HS.out.2 k hk2
            · obtain rfl : k = i := by omega
              rw [← HX.out]
              exact hlg⟩
          clear hlg HS
          go_wp2_with fail
          exact ⟨⟨i + 1, by omega, by go_num, ⟨S7.out, HLG.out⟩⟩, by simp [intOf]; omega⟩
        · rw [show decide (x.wn ≤ 20 ∧ x.pn ≤ 20) = false from decide_eq_false hlg]
          clear hlg HS
          go_wp2_with fail
          refine (awake_any _).mono ?_
          rintro r w8 ⟨rfl, hb⟩
          have E : Kp (Below A w w8) := ⟨S7.out.below.trans (hb.mono S7.out.le)⟩
          clear hb
          go_wp2_with fail
          go_ret
          exact ⟨rfl, by rw [← HAe.out]; exact E.out⟩
      · obtain rfl : i = n := by omega
        have HW : Kp (HoldsW wr A a i f) := ⟨by
          have h1 := HO.out.weak (fun k hk => by have := HS.out.2 k hk; omega)
          rw [← HAe.out] at h1
          exact h1.upto HS.out.1.below (Nat.le_refl _)⟩
        have HBE : Kp (Below A w wr ∧ A ≤ wr.heap.size) := ⟨HS.out.1.below, HS.out.1.le⟩
        clear HS S0
        go_wp2_with fail
        refine (entries_any a i c f wr (HW.out.mono HBE.out.2) (by have := HN.out; omega)).mono ?_
        rintro r w1 ⟨a1, c1, xs, rfl, hes, hxl, hxs, hb⟩
        have HE1 : Kp (HoldsE w1 w1.heap.size a1 i (nthE xs) ∧ i ≤ c1) := ⟨(made_holds HW.out hes hxl hxs).1, hes.cap⟩
        have HSM : Kp (∀ j, j < i → SameE (f j) (nthE xs j)) := ⟨same_nth hxl hxs⟩
        have HW1 := Kp.mk (HW.out.keep hb)
        have HB1 : Kp (Below A w w1 ∧ A ≤ w1.heap.size) := ⟨HBE.out.1.trans (hb.mono HBE.out.2), Nat.le_trans HBE.out.2 hb.size⟩
        clear hes hxl hxs hb HW HBE
        go_wp2_with fail
        refine (updates_any u a1 i c1 (nthE xs) most w1 HE1.out.1 (by have := HN.out; omega) HE1.out.2).mono ?_
        rintro r w2 ⟨a2, c2, L1, rfl, hT1, hL1, hb⟩
        have HW2 := Kp.mk (HW1.out.keep hb)
        have HB2 : Kp (Below A w w2 ∧ A ≤ w2.heap.size) := ⟨HB1.out.1.trans (hb.mono HB1.out.2), Nat.le_trans HB1.out.2 hb.size⟩
        have HT1 : Kp (TB w2 A (.slice a2 L1.length c2) L1) := ⟨hT1.base HB1.out.2⟩
        have HL1 := Kp.mk hL1
        clear hT1 hL1 hb HW1 HB1 HE1
        go_wp2_with fail
        refine (rupdates_any u a i c f most w2 (HW2.out.mono HB2.out.2) (by have := HN.out; omega) HC.out).mono ?_
        rintro r w3 ⟨a3, c3, L2, rfl, hT2, hL2, hb⟩
        have HB3 : Kp (Below A w w3 ∧ A ≤ w3.heap.size) := ⟨HB2.out.1.trans (hb.mono HB2.out.2), Nat.le_trans HB2.out.2 hb.size⟩
        have HT2 : Kp (TB w3 A (.slice a3 L2.length c3) L2) := ⟨hT2.base HB2.out.2⟩
        have HT3 := Kp.mk (HT1.out.keep hb)
        have HQ : Kp (L1.map (·.2) = L2.map (·.2)) := ⟨by
          rw [HL1.out, hL2]
          exact (upds_same i 0 (fun j hj => by rw [sh_0, sh_0]; exact HSM.out j hj)).symm⟩
        have HLL : Kp (L2.length = L1.length) := ⟨by have := congrArg List.length HQ.out; simpa using this.symm⟩
        rw [HLL.out] at HT2 ⊢
        obtain ⟨m, hm⟩ : ∃ m, m = L1.length := ⟨_, rfl⟩
        rw [← hm] at HT2 HT3 ⊢
        have HMM := Kp.mk hm
        have hm9 : m ≤ 9223372036854775807 := by rw [hm]; have := HT3.out.len; unfold maxLen at this; omega
        have hmm : ((m : Int) != (m : Int)) = false := by simp
        clear hT2 hL2 hb HT1 HW2 HB2 hm hi hlt
        go_wp2_with fail
        obtain ⟨w0, hw0⟩ : ∃ w0, w0 = w3 := ⟨_, rfl⟩
        have R1' : Kp (TB w0 A (.slice a2 m c2) L1) := ⟨by rw [hw0]; exact HT3.out⟩
        have R2' : Kp (TB w0 A (.slice a3 m c3) L2) := ⟨by rw [hw0]; exact HT2.out⟩
        have W0 : Kp (∃ k, w3 = w0.drewN k) := ⟨0, hw0.symm⟩
        have E0 : Kp (Below A w w0 ∧ A ≤ w0.heap.size) := ⟨by rw [hw0]; exact HB3.out⟩
        clear HT2 HT3 HB3 hw0
        go_loopw [44] (fun ct wr => ∃ i : Nat, i ≤ m ∧ ct = .int .i64 i ∧ Kp (∃ k, wr = w0.drewN k)) (fun ct _ => m - (intOf ct).toNat)
        case atStart => exact ⟨0, by omega, rfl, W0⟩
        case round =>
          clear W0
          obtain ⟨j, hj, rfl, ⟨k, rfl⟩⟩ := hrel
          by_cases hlt : j < m
          · have t1 : (j : Int) < m := by omega
            have HLT := Kp.mk hlt
            have hj1 : j < L1.length := by rw [← HMM.out]; exact hlt
            have hj2 : j < L2.length := by rw [HLL.out, ← HMM.out]; exact hlt
            have hq : L1[j].2 = L2[j].2 := by
              have := congrArg (fun l => l[j]?) HQ.out
              simpa [hj1, hj2] using this
            obtain ⟨g1, b1, n1, k1, rfl, x1, z1⟩ := R1'.out.at hj1
            obtain ⟨g2, b2, n2, k2, rfl, x2, z2⟩ := R2'.out.at hj2
            rw [← hq] at z2
            have s1 : ∀ q, (convert 39 9 (.slice b1 n1 k1)).run Try.prog (w0.drewN q) = .ok (.string (strOfNums L1[j].2)) (w0.drewN q) := fun q => ((z1.keep (below_drewN (Below.refl w0.heap.size w0) q))).text
            have s2 : ∀ q, (convert 39 9 (.slice b2 n2 k2)).run Try.prog (w0.drewN q) = .ok (.string (strOfNums L1[j].2)) (w0.drewN q) := fun q => ((z2.keep (below_drewN (Below.refl w0.heap.size w0) q))).text
            clear hq z1 z2 hlt
            generalize strOfNums L1[j].2 = ss at s1 s2
            have e2 : (ss.toList == ss.toList) = true := by simp
            go_wp2_with fail
            go_quiet (fail)
            go_wp2_with fail
            exact ⟨⟨j + 1, by have := HLT.out; omega, by go_num, ⟨_, rfl⟩⟩, by have := HLT.out; simp [intOf]; omega⟩
          · obtain rfl : j = m := by omega
            have E4 : Kp (Below A w (w0.drewN k) ∧ A ≤ (w0.drewN k).heap.size) := ⟨E0.out.1.trans ((below_drewN (Below.refl w0.heap.size w0) k).mono E0.out.2), E0.out.2⟩
            clear R1' R2' E0
            generalize w0.drewN k = w4 at E4 ⊢
            go_wp2_with fail
            refine (awake_any _).mono ?_
            rintro r w8 ⟨rfl, hb⟩
            have E : Kp (Below A w w8) := ⟨E4.out.1.trans (hb.mono E4.out.2)⟩
            clear hb
            go_wp2_with fail
            go_ret
            exact ⟨rfl, by rw [← HAe.out]; exact E.out⟩
end Go.Proofs.Ytioeaknhcfkfcaa
