/-
  The document's Bodies.
  Whole, by the program and by the document; the example.
  BuildBodies: the example; the walk.
  BuildAll: the walk.
-/
import Derived.Test.YtioeaknhcfkfcaaBv15
namespace Go.Proofs.Ytioeaknhcfkfcaa
open Go.RowKit

set_option maxRecDepth 100000 in
set_option maxHeartbeats 6400000 in
theorem rbodies_any (kind id most : Int) (v : Value) (bl : List Int) (w : World) (h : HoldsB w w.heap.size v bl) (hl : bl.length ≤ 20000) (hid : 0 ≤ id ∧ id ≤ 4294967295) :
    Calls Try.prog 16 #[.int .i64 kind, .int .u32 id, v, .int .i64 most] w (BodPost 60 (bodL kind id bl most) (bodE kind bl most) w) := by
  have H := Kp.mk h
  obtain ⟨a, n, cap, rfl, hn⟩ := h.slice
  have HN := Kp.mk hn
  have hn2 : n ≤ 20000 := by omega
  have HID := Kp.mk hid
  clear h hl hn hid
  cases hok : okB kind most with
  | false =>
    have HE : Kp (bodE kind bl most = 1 ∧ bodL kind id bl most = []) := ⟨by
      have e : bodE kind bl most = 1 := by unfold bodE; rw [if_pos hok]
      exact ⟨e, by unfold bodL; rw [e]; rfl⟩⟩
    have hc : (kind < 1) ∨ (¬ kind < 1 ∧ 3 < kind) ∨ (¬ kind < 1 ∧ ¬ 3 < kind ∧ most < 16) ∨ (¬ kind < 1 ∧ ¬ 3 < kind ∧ ¬ most < 16 ∧ 4096 < most) := by
      simp [okB] at hok; omega
    clear hok
    rcases hc with h1 | ⟨h1, h2⟩ | ⟨h1, h2, h3⟩ | ⟨h1, h2, h3, h4⟩
    all_goals
      go_enter Try.func16, Try.ntmps16
      go_wp2_with fail
      refine bodyPost_ret (results_tmp2 rfl _ _ _) rfl ?_
      rw [HE.out.1, HE.out.2]
      exact BodPost.none (Below.refl _ _)
  | true =>
    have hk : 1 ≤ kind ∧ kind ≤ 3 ∧ 16 ≤ most ∧ most ≤ 4096 := by simpa [okB] using hok
    have HK := Kp.mk hk
    have hk1 : ¬ kind < 1 := by omega
    have hk3 : ¬ 3 < kind := by omega
    have h16 : ¬ most < 16 := by omega
    have h40 : ¬ 4096 < most := by omega
    by_cases hs : (n : Int) ≤ most
    · have HE : Kp (bodE kind bl most = 0 ∧ bodL kind id bl most = [(kind, bl)]) := ⟨by
        have e : bodE kind bl most = 0 := by unfold bodE; rw [if_neg (by rw [hok]; simp), if_pos (by rw [← HN.out]; exact hs)]
        exact ⟨e, by unfold bodL; rw [e, if_neg (by simp), if_pos (by rw [← HN.out]; exact hs)]⟩⟩
      clear hok hk
      go_enter Try.func16, Try.ntmps16
      go_wp2_with fail
      refine bodyPost_ret (results_tmp2 rfl _ _ _) rfl ?_
      rw [HE.out.1, HE.out.2]
      exact ⟨_, [⟨kind, .slice a n cap, bl⟩], rfl, more (Below.refl _ _) _, ownsRow_two (Nat.le_refl _) (Blk.new _ _), (fun x hx => by simp at hx; subst hx; exact H.out.grow (more (Below.refl _ _) _)), rfl⟩
    · have hkw : IntKind.u8.wrap kind = kind := by rw [IntKind.wrap_u8']; omega
      obtain ⟨sz, hsz⟩ : ∃ sz : Nat, sz = (most - 8).toNat := ⟨_, rfl⟩
      have hszi : most - 8 = (sz : Int) := by omega
      have HSZ : Kp (sz = (most - 8).toNat ∧ 8 ≤ sz ∧ sz ≤ 4088) := ⟨hsz, by omega, by omega⟩
      obtain ⟨m, hm⟩ : ∃ m, m = manyN (n + 1) sz := ⟨_, rfl⟩
      have HE : Kp (bodE kind bl most = (if 16384 < n + 1 then 1 else if 32 < m then 8 else 0)) := ⟨by
        unfold bodE; rw [if_neg (by rw [hok]; simp), if_neg (by rw [← HN.out]; exact hs), ← HN.out, ← hsz, ← hm]⟩
      have HL : Kp (bodE kind bl most = 0 → bodL kind id bl most = pieceTs id (kind :: bl) sz m m) := ⟨fun e => by
        unfold bodL; rw [if_neg (by rw [e]; simp), if_neg (by rw [← HN.out]; exact hs), ← HN.out, ← hsz, ← hm]⟩
      have HL0 : Kp (bodE kind bl most ≠ 0 → bodL kind id bl most = []) := ⟨fun e => by unfold bodL; rw [if_pos e]⟩
      have HM := Kp.mk hm
      have HLA : Kp ((kind :: bl).length = n + 1) := ⟨by simp [HN.out]⟩
      have HBA : Kp (Bytes (kind :: bl)) := ⟨fun x hx => by
        rcases List.mem_cons.1 hx with rfl | hx
        · have := HK.out; omega
        · exact H.out.bytes x hx⟩
      obtain ⟨A, hA⟩ : ∃ A, A = w.heap.size := ⟨_, rfl⟩
      have HAe := Kp.mk hA
      obtain ⟨i0, hi0, hz0, hz1, hz2⟩ := info_parts info60'
      clear hok hk hsz hm hA
      go_enter Try.func16, Try.ntmps16
      have HROW : Kp ((w.alloc (.cells #[.int .u8 kind] 5)).ownsRow A 5 1 (.slice (some ⟨w.heap.size, 0, none⟩) 1 1) 1 (bv [kind])) := ⟨ownsRow_oneB (by rw [HAe.out]; exact Nat.le_refl _) (Blk.new _ _)⟩
      have H2 := Kp.mk (H.out.alloc (.cells #[.int .u8 kind] 5))
      go_wp2_with (at_builtin; refine wpList_append_holds rfl (.tmp 41) (.tmp 42) rfl A _ 1 (bv [kind]) rfl HROW.out w.heap.size _ bl rfl H2.out ?a1 ?a2 ?_)
      case a1 => rw [← HN.out]; omega
      case a2 => rw [HAe.out]; simp
      · intro v' w2 ho hg
        have E2 : Kp (Below A w w2) := ⟨below_row_grown (by rw [HAe.out]; exact more (Below.refl _ _) _) (by rw [HAe.out]; simp) HROW.out hg⟩
        have Z2 : Kp (A ≤ w2.heap.size) := ⟨by have h8 := hg.size; rw [HAe.out]; simp at h8; omega⟩
        have HX : Kp (HoldsB w2 w2.heap.size v' (kind :: bl)) := ⟨HoldsB.ofRow HBA.out (by rw [HLA.out]; have h9 := ho; rw [← HN.out, Nat.add_comm 1 n] at h9; exact h9)⟩
        clear ho hg HROW H2
        obtain ⟨xa, xn, xc, rfl, hxn⟩ := HX.out.slice
        rw [HLA.out] at hxn
        subst hxn
        have hmo : (most : Int) - 8 ≤ 4096 := by omega
        by_cases hb1 : 16384 < n + 1
        · have HE1 : Kp (bodE kind bl most = 1) := ⟨by rw [HE.out, if_pos hb1]⟩
          go_wp2_with fail
          refine (rsplit_bad id sz xa (n + 1) xc _ (by omega) (.inr (.inr hb1))).mono ?_
          rintro r w3 ⟨rfl, rfl⟩
          go_wp2_with fail
          refine bodyPost_ret (results_tmp2 rfl _ _ _) rfl ?_
          rw [HL0.out (by rw [HE1.out]; decide), HE1.out]
          exact BodPost.none (by rw [← HAe.out]; exact E2.out)
        · by_cases hb2 : 32 < m
          · have HE1 : Kp (bodE kind bl most = 8) := ⟨by rw [HE.out, if_neg hb1, if_pos hb2]⟩
            go_wp2_with fail
            refine (rsplit_many id sz (n + 1) xa xc _ (by have := HSZ.out; omega) (by omega) (by rw [← HM.out]; exact hb2)).mono ?_
            rintro r w3 ⟨rfl, rfl⟩
            go_wp2_with fail
            refine bodyPost_ret (results_tmp2 rfl _ _ _) rfl ?_
            rw [HL0.out (by rw [HE1.out]; decide), HE1.out]
            exact BodPost.none (by rw [← HAe.out]; exact E2.out)
          · have HE1 : Kp (bodE kind bl most = 0) := ⟨by rw [HE.out, if_neg hb1, if_neg hb2]⟩
            have HSP := Kp.mk (rsplit_any id sz _ (kind :: bl) _ HX.out (by have := HSZ.out; omega) (by rw [HLA.out]; omega) (by rw [HLA.out, ← HM.out]; omega) (fun k hk => by rw [HLA.out] at hk ⊢; exact manyN_lt hk))
            rw [HLA.out, ← HM.out] at HSP
            have HM32 : Kp (m ≤ 32) := ⟨by omega⟩
            clear hb1 hb2
            go_wp2_with fail
            refine HSP.out.mono ?_
            rintro r w3 ⟨vp, l, rfl, hb, hP, hlm, hall⟩
            have E3 : Kp (Below A w w3) := ⟨E2.out.trans (hb.mono Z2.out)⟩
            have Z3 : Kp (A ≤ w3.heap.size) := ⟨Nat.le_trans Z2.out hb.size⟩
            have HP := Kp.mk hP
            have HALL := Kp.mk hall
            have HLM := Kp.mk hlm
            obtain ⟨S, hS⟩ : ∃ S, S = w3.heap.size := ⟨_, rfl⟩
            have HSe := Kp.mk hS
            have hm9 : m ≤ 9223372036854775807 := by have := HM32.out; omega
            clear hb hP hall hlm HX HSP E2 Z2 hS
            obtain ⟨vpa, vpc, rfl⟩ : ∃ a c, vp = .slice a m c := by
              rcases HP.out.r.2 with ⟨h9, h8⟩ | ⟨g, cap, cur, h9, _⟩
              · rw [h9, ← HLM.out, h8]; exact ⟨_, _, rfl⟩
              · rw [h9, HLM.out]; exact ⟨_, _, rfl⟩
            go_wp2_with fail
            go_loopw [13, 14, 15] (fun v c _ wr => ∃ (i : Nat) (L : List BdV), i ≤ m ∧ c = .int .i64 i ∧ Kp (L.length = i) ∧ Kp (wr.ownsRow S 60 2 v i (L.flatMap bdc)) ∧ Kp (∀ x ∈ L, HoldsT wr x.v x.l) ∧ Kp (L.map (fun x => (x.k, x.l)) = pieceTs id (kind :: bl) sz m i) ∧ Kp (Below S w3 wr)) (fun _ c _ _ => m - (intOf c).toNat)
            case atStart => exact ⟨0, [], by omega, rfl, ⟨rfl⟩, ⟨World.ownsRow_nil _ _ _ _⟩, ⟨fun x hx => by cases hx⟩, ⟨rfl⟩, ⟨Below.refl _ _⟩⟩
            case round =>
              obtain ⟨i, L, hi, rfl, HLL, HO, HT, HMP, F0⟩ := hrel
              by_cases hlt : i < m
              · have t1 : (i : Int) < m := by omega
                have HLT := Kp.mk hlt
                have HPW := HP.out.keep (by rw [← HSe.out]; exact F0.out)
                obtain ⟨lb, lc, e9, -, -, hr⟩ := HPW.at (i := i) (by rw [HLM.out]; exact hlt)
                rw [HLM.out] at e9
                cases e9
                obtain ⟨q1, q2, q3, q4⟩ := HALL.out i _ (List.getElem?_eq_getElem (by rw [HLM.out]; exact hlt))
                have hH := HPW.text (List.getElem_mem (by rw [HLM.out]; exact hlt))
                obtain ⟨pa, pn, pc, e5, e6⟩ := hH.slice
                unfold pcc at hr
                rw [q1, q2, q3, e5, e6, q4] at hr
                rw [e5, e6, q4] at hH
                have HR := Kp.mk hr
                have HH := Kp.mk hH
                clear q1 q2 q3 q4 e5 e6 HPW
                have HPL : Kp ((pieceL (kind :: bl) sz i).length ≤ 4096) := ⟨by have := pieceL_len (bl := kind :: bl) (sz := sz) (k := i); have := HSZ.out; omega⟩
                obtain ⟨pl, hpl⟩ : ∃ pl, pl = (pieceL (kind :: bl) sz i).length := ⟨_, rfl⟩
                rw [← hpl] at HR HH HPL
                clear hr hH hpl hlt
                go_wp2_with (refine wpList_load_mid rfl 109 (.tmp 64) rfl lb (i * 4) rfl [.int .u32 id, .int .i64 i, .int .i64 m, .slice pa pl pc] _ HR.out Try.underlying109 rfl (by kernel_rfl) ?_)
                refine (rputN_good ⟨id, i, m, pa, pl, pc⟩ (pieceL (kind :: bl) sz i) _ HH.out (by unfold rightB; have := HM32.out; have := HPL.out; simp; omega) HID.out).mono ?_
                rintro r w4 ⟨v', rfl, hT, hb⟩
                have F1 : Kp (Below S w3 w4) := ⟨F0.out.trans (hb.mono (by rw [HSe.out]; exact F0.out.size))⟩
                have Z1 : Kp (S ≤ w4.heap.size) := ⟨by rw [HSe.out]; exact F1.out.size⟩
                have HW1 : Kp (Below wr.heap.size wr w4) := ⟨hb⟩
                have HO1 := Kp.mk (ownsRow_below HO.out HW1.out)
                have HT1 : Kp (∀ x ∈ L, HoldsT w4 x.v x.l) := ⟨fun x hx => (HT.out x hx).grow HW1.out⟩
                have HN1 : Kp (HoldsT w4 v' (pieceT id (kind :: bl) sz m i)) := ⟨hT⟩
                clear hT hb HO HT HW1 F0 HR HH
                obtain ⟨va, vn, vc, rfl, -⟩ := HN1.out.1.slice
                go_wp2_with (at_builtin; refine wpList_append_own _ rfl _ _ 55 rfl S 60 i0 (.agg #[.int .i64 0, .slice none 0 0]) 2 32 Try.underlying55 hi0 hz0 hz1 hz2 rfl (by decide) _ i (L.flatMap bdc) rfl (HO1.out.alloc _) ⟨w4.heap.size, 0, none⟩ 1 1 [.int .i64 4, .slice va vn vc] rfl rfl ?c1 ?c2 ?c3 ?c4 ?c5 ?_)
                case c1 =>
                  intro j u hj
                  match j, hj with
                  | 0, hj => simp at hj; subst hj; simp [Addr.add]
                  | 1, hj => simp at hj; subst hj; simp [Addr.add]
                case c2 =>
                  intro u hu
                  simp at hu
                  rcases hu with rfl | rfl <;> rfl
                case c3 => have := HM32.out; have := HLT.out; unfold maxLen; omega
                case c4 => have := HM32.out; have := HLT.out; omega
                case c5 => have := Z1.out; simp; omega
                · intro v' w5 hown' hgrow _
                  have HA5 : Kp (∀ x ∈ L ++ [(⟨4, .slice va vn vc, pieceT id (kind :: bl) sz m i⟩ : BdV)], HoldsT w5 x.v x.l) := ⟨fun x hx => by
                    have hx4 : HoldsT (w4.alloc (.cells #[.int .i64 4, .slice va vn vc] 60)) x.v x.l := by
                      rcases List.mem_append.1 hx with hx | hx
                      · exact (HT1.out x hx).grow (more (Below.refl _ _) _)
                      · simp at hx; subst hx; exact HN1.out.grow (more (Below.refl _ _) _)
                    exact hx4.grown (HO1.out.alloc _) (by decide) hgrow⟩
                  have F5 : Kp (Below S w3 w5) := ⟨below_row_grown (F1.out.alloc Z1.out _) (by have := Z1.out; simp; omega) (HO1.out.alloc _) hgrow⟩
                  have HO5 : Kp (w5.ownsRow S 60 2 v' (i + 1) ((L ++ [(⟨4, .slice va vn vc, pieceT id (kind :: bl) sz m i⟩ : BdV)]).flatMap bdc)) := ⟨by rw [← bdc_snoc]; exact hown'⟩
                  have HM5 : Kp ((L ++ [(⟨4, .slice va vn vc, pieceT id (kind :: bl) sz m i⟩ : BdV)]).map (fun x => (x.k, x.l)) = pieceTs id (kind :: bl) sz m (i + 1)) := ⟨by rw [List.map_append, HMP.out, pieceTs_snoc]; rfl⟩
                  clear hown' hgrow
                  go_wp2_with fail
                  exact ⟨⟨i + 1, _, by have := HLT.out; omega, by go_num, ⟨by rw [List.length_append, HLL.out]; rfl⟩, HO5, HA5, HM5, F5⟩, by have := HLT.out; simp [intOf]; omega⟩
              · obtain rfl : i = m := by omega
                go_wp2_with fail
                refine bodyPost_ret (results_tmp2 rfl _ _ _) rfl ?_
                rw [HL.out HE1.out, HE1.out]
                exact ⟨_, L, rfl, by rw [← HAe.out]; exact E3.out.trans (F0.out.mono (by rw [HSe.out]; exact Z3.out)), by rw [← HAe.out, HLL.out]; exact ownsRow_base HO.out (by rw [HSe.out]; exact Z3.out), fun x hx => (HT.out x hx).1, HMP.out⟩
end Go.Proofs.Ytioeaknhcfkfcaa

namespace Go.Proofs.Ytioeaknhcfkfcaa
open Go.RowKit

def whE (bl : List Int) : Int := if bl.length = 0 then 9 else if wholeB (bl.getD 0 0) = true then 0 else 10
def whK (bl : List Int) : Int := if whE bl = 0 then bl.getD 0 0 else 0
def whT (bl : List Int) : List Int := if whE bl = 0 then bl.drop 1 else []
def WholePost (bl : List Int) (w : World) (r : Ending) (w' : World) : Prop :=
  ∃ a n c, r = .returned (.tuple #[.int .i64 (whK bl), .slice a n c, .int .i64 (whE bl)]) ∧ HoldsB w' w'.heap.size (.slice a n c) (whT bl) ∧ Below w.heap.size w w'
theorem wh_none {bl : List Int} (h : bl.length = 0) : whE bl = 9 ∧ whK bl = 0 ∧ whT bl = [] := by
  have e : whE bl = 9 := by unfold whE; rw [if_pos h]
  exact ⟨e, by unfold whK; rw [e]; rfl, by unfold whT; rw [e]; rfl⟩
theorem wh_bad {bl : List Int} (h : bl.length ≠ 0) (h2 : wholeB (bl.getD 0 0) = false) : whE bl = 10 ∧ whK bl = 0 ∧ whT bl = [] := by
  have e : whE bl = 10 := by unfold whE; rw [if_neg h, if_neg (by rw [h2]; simp)]
  exact ⟨e, by unfold whK; rw [e]; rfl, by unfold whT; rw [e]; rfl⟩
theorem wh_good {bl : List Int} (h : bl.length ≠ 0) (h2 : wholeB (bl.getD 0 0) = true) : whE bl = 0 ∧ whK bl = bl.getD 0 0 ∧ whT bl = bl.drop 1 := by
  have e : whE bl = 0 := by unfold whE; rw [if_neg h, if_pos h2]
  exact ⟨e, by unfold whK; rw [e]; rfl, by unfold whT; rw [e]; rfl⟩
theorem HoldsB.tail1 {w : World} {M b off n cap : Nat} {l : List Int} (h : HoldsB w M (.slice (some ⟨b, off, none⟩) n cap) l) (h0 : 0 < l.length) :
    HoldsB w M (.slice (if cap = 1 then some ⟨b, off, none⟩ else some ⟨b, off + 1, none⟩) (n - 1) (cap - 1)) (l.drop 1) := by
  obtain ⟨a', cap', h1, h2, h3, h4, h5, h6, h7⟩ := h
  cases h1
  obtain ⟨q1, q2, q3⟩ := h5 _ rfl h0
  refine ⟨_, cap - 1, by rw [List.length_drop], by rw [List.length_drop]; omega, by omega, fun e => ?_, fun x hx hl => ?_, fun x i hx hi => ?_, h7.drop 1⟩
  · split at e <;> cases e
  · split at hx <;> cases hx <;> exact ⟨rfl, q2, q3⟩
  · rw [List.length_drop] at hi
    rw [if_neg (by omega)] at hx
    cases hx
    have := h6 _ (i + 1) rfl (by omega)
    rw [show (l.drop 1).getD i 0 = l.getD (i + 1) 0 by rw [drop_getD, Nat.add_comm]]
    rw [← this]
    simp only [Nat.add_assoc, Nat.add_comm 1 i]
set_option maxHeartbeats 3200000 in
theorem whole_any (v : Value) (bl : List Int) (w : World) (h : HoldsB w w.heap.size v bl) (hl : bl.length ≤ 20000) : Calls Try.prog 17 #[v] w (WholePost bl w) := by
  have H := Kp.mk h
  obtain ⟨a, n, cap, rfl, hn⟩ := h.slice
  have HN := Kp.mk hn
  have hn2 : n ≤ 20000 := by omega
  clear h hl
  by_cases h0 : n = 0
  · have HE := Kp.mk (wh_none (bl := bl) (by omega))
    subst h0
    clear hn
    go_enter Try.func17, Try.ntmps17
    go_wp2_with fail
    refine bodyPost_ret (v := .tuple #[.int .i64 0, .slice none 0 0, .int .i64 9]) (by simp [results, Try.results17, go_sem]) rfl ?_
    unfold WholePost
    rw [HE.out.1, HE.out.2.1, HE.out.2.2]
    exact ⟨_, _, _, rfl, HoldsB.nil _ _, Below.refl _ _⟩
  · obtain ⟨b, off, rfl, -, hc⟩ := H.out.cellAt (i := 0) (by omega)
    have hx := H.out.bytes.at (i := 0) (by omega)
    have H0 : Kp (bl.length ≠ 0) := ⟨by omega⟩
    have HG := Kp.mk (wh_good (bl := bl) H0.out)
    have HB := Kp.mk (wh_bad (bl := bl) H0.out)
    have HTL := Kp.mk (H.out.tail1 (by omega))
    have n1 : (0 : Int) < n := by omega
    have n2 : (1 : Int) ≤ n := by omega
    have hnn : ¬ n = 0 := h0
    have hnb : ((n : Int) == 0) = false := by simp; omega
    have hw : IntKind.i64.wrap (bl.getD 0 0) = bl.getD 0 0 := IntWalk.i64_in _ (by omega)
    have HLL : Kp ((bl.drop 1).length ≤ 140737488351232) := ⟨by rw [List.length_drop]; omega⟩
    clear hn h0
    generalize bl.getD 0 0 = x at hc hx HG HB hw
    simp only [Nat.add_zero] at hc
    by_cases hcp : cap = 1
    case' pos => subst hcp; rw [if_pos rfl] at HTL; simp only [Nat.sub_self] at HTL
    case' neg => rw [if_neg hcp] at HTL
    all_goals
      have HX := Kp.mk hx
      cases hwx : wholeB x with
      | false =>
        have HE := Kp.mk (HB.out hwx)
        have HWX := Kp.mk hwx
        clear hwx HG HB hx
        go_enter Try.func17, Try.ntmps17
        go_wp2_with fail
        refine (isWhole_any x _).mono ?_
        rintro r w1 ⟨rfl, rfl⟩
        rw [HWX.out]
        go_wp2_with fail
        refine bodyPost_ret (v := .tuple #[.int .i64 0, .slice none 0 0, .int .i64 10]) (by simp [results, Try.results17, go_sem]) rfl ?_
        unfold WholePost
        rw [HE.out.1, HE.out.2.1, HE.out.2.2]
        exact ⟨_, _, _, rfl, HoldsB.nil _ _, Below.refl _ _⟩
      | true =>
        have HE := Kp.mk (HG.out hwx)
        have HWX := Kp.mk hwx
        clear hwx HG HB hx
        go_enter Try.func17, Try.ntmps17
        go_wp2_with fail
        refine (isWhole_any x _).mono ?_
        rintro r w1 ⟨rfl, rfl⟩
        rw [HWX.out]
        go_wp2_with fail
        refine (clone_any _ _ (bl.drop 1) _ HTL.out HLL.out).mono ?_
        rintro r w2 ⟨v', rfl, ho, hb⟩
        have HO := Kp.mk (HoldsB.ofRow HTL.out.bytes ho)
        have E := Kp.mk hb
        clear ho hb
        obtain ⟨va, vn, vc, rfl, -⟩ := HO.out.slice
        go_wp2_with fail
        refine bodyPost_ret (v := .tuple #[.int .i64 x, .slice va vn vc, .int .i64 0]) (by simp [results, Try.results17, go_sem]) rfl ?_
        unfold WholePost
        rw [HE.out.1, HE.out.2.1, HE.out.2.2]
        exact ⟨_, _, _, rfl, HO.out, E.out⟩
set_option maxHeartbeats 3200000 in
theorem rwhole_any (v : Value) (bl : List Int) (w : World) (h : HoldsB w w.heap.size v bl) (hl : bl.length ≤ 20000) : Calls Try.prog 18 #[v] w (WholePost bl w) := by
  have H := Kp.mk h
  obtain ⟨a, n, cap, rfl, hn⟩ := h.slice
  have HN := Kp.mk hn
  have hn2 : n ≤ 20000 := by omega
  clear h hl
  by_cases h0 : n = 0
  · have HE := Kp.mk (wh_none (bl := bl) (by omega))
    subst h0
    clear hn
    go_enter Try.func18, Try.ntmps18
    go_wp2_with fail
    refine bodyPost_ret (v := .tuple #[.int .i64 0, .slice none 0 0, .int .i64 9]) (by simp [results, Try.results18, go_sem]) rfl ?_
    unfold WholePost
    rw [HE.out.1, HE.out.2.1, HE.out.2.2]
    exact ⟨_, _, _, rfl, HoldsB.nil _ _, Below.refl _ _⟩
  · obtain ⟨b, off, rfl, -, hc⟩ := H.out.cellAt (i := 0) (by omega)
    have hx := H.out.bytes.at (i := 0) (by omega)
    have H0 : Kp (bl.length ≠ 0) := ⟨by omega⟩
    have HG := Kp.mk (wh_good (bl := bl) H0.out)
    have HB := Kp.mk (wh_bad (bl := bl) H0.out)
    have HTL := Kp.mk (H.out.tail1 (by omega))
    have n1 : (0 : Int) < n := by omega
    have n2 : (1 : Int) ≤ n := by omega
    have hnn : ¬ n = 0 := h0
    have hnb : ((n : Int) == 0) = false := by simp; omega
    have hw : IntKind.i64.wrap (bl.getD 0 0) = bl.getD 0 0 := IntWalk.i64_in _ (by omega)
    clear hn h0
    generalize bl.getD 0 0 = x at hc hx HG HB hw
    simp only [Nat.add_zero] at hc
    by_cases hcp : cap = 1
    case' pos => subst hcp; rw [if_pos rfl] at HTL; simp only [Nat.sub_self] at HTL
    case' neg => rw [if_neg hcp] at HTL
    all_goals
      by_cases hw1 : x < 1
      · have HE := Kp.mk (HB.out (by simp [wholeB]; omega))
        clear HG HB
        go_enter Try.func18, Try.ntmps18
        go_wp2_with fail
        refine bodyPost_ret (v := .tuple #[.int .i64 0, .slice none 0 0, .int .i64 10]) (by simp [results, Try.results18, go_sem]) rfl ?_
        unfold WholePost
        rw [HE.out.1, HE.out.2.1, HE.out.2.2]
        exact ⟨_, _, _, rfl, HoldsB.nil _ _, Below.refl _ _⟩
      · by_cases hw3 : 3 < x
        · have HE := Kp.mk (HB.out (by simp [wholeB]; omega))
          clear HG HB
          go_enter Try.func18, Try.ntmps18
          go_wp2_with fail
          refine bodyPost_ret (v := .tuple #[.int .i64 0, .slice none 0 0, .int .i64 10]) (by simp [results, Try.results18, go_sem]) rfl ?_
          unfold WholePost
          rw [HE.out.1, HE.out.2.1, HE.out.2.2]
          exact ⟨_, _, _, rfl, HoldsB.nil _ _, Below.refl _ _⟩
        · have HE := Kp.mk (HG.out (by simp [wholeB]; omega))
          clear HG HB
          go_enter Try.func18, Try.ntmps18
          go_wp2_with fail
          go_quiet (fail)
          go_wp2_with fail
          refine bodyPost_ret (v := .tuple #[.int .i64 x, _, .int .i64 0]) (by simp [results, Try.results18, go_sem]; rfl) rfl ?_
          unfold WholePost
          rw [HE.out.1, HE.out.2.1, HE.out.2.2]
          exact ⟨_, _, _, rfl, HTL.out.keep ⟨rfl, rfl, rfl, Nat.le_refl _, fun _ _ => rfl⟩, ⟨rfl, by simp, rfl, Nat.le_refl _, fun _ _ => rfl⟩⟩
end Go.Proofs.Ytioeaknhcfkfcaa

namespace Go.Proofs.Ytioeaknhcfkfcaa
open Go.RowKit

theorem bdc_at : ∀ (L : List BdV) (i : Nat) (hi : i < L.length), (L.flatMap bdc)[i * 2]? = some (.int .i64 L[i].k) ∧ (L.flatMap bdc)[i * 2 + 1]? = some L[i].v
  | [], i, hi => absurd hi (by simp)
  | x :: t, 0, _ => ⟨rfl, rfl⟩
  | x :: t, i + 1, hi => by
    have h := bdc_at t i (by simpa using hi)
    rw [List.flatMap_cons, show (i + 1) * 2 = i * 2 + 2 by omega, show i * 2 + 2 + 1 = i * 2 + 1 + 2 by omega]
    rw [List.getElem?_append_right (by simp [bdc]), List.getElem?_append_right (by simp [bdc])]
    simpa [bdc] using h
/-- A row of bodies. -/
structure BRow (w : World) (e : TypeId) (v : Value) (L : List BdV) : Prop where
  r : ∃ A, w.ownsRow A e 2 v L.length (L.flatMap bdc)
  t : ∀ x ∈ L, HoldsB w w.heap.size x.v x.l
theorem BRow.keep {w w' : World} {e : TypeId} {v : Value} {L : List BdV} (h : BRow w e v L) (hb : Below w.heap.size w w') : BRow w' e v L := by
  obtain ⟨A, hr⟩ := h.r
  exact ⟨⟨A, ownsRow_below hr hb⟩, fun x hx => (h.t x hx).grow hb⟩
theorem BRow.shape {w : World} {e : TypeId} {v : Value} {L : List BdV} (h : BRow w e v L) : ∃ a c, v = .slice a L.length c := by
  obtain ⟨A, hr⟩ := h.r
  rcases hr.2 with ⟨h9, h8⟩ | ⟨g, cap, cur, h9, _⟩
  · rw [h8]; exact ⟨_, _, h9⟩
  · exact ⟨_, _, h9⟩
theorem BRow.at {w : World} {e : TypeId} {a : Option Addr} {n c : Nat} {L : List BdV} (h : BRow w e (.slice a n c) L) {i : Nat} (hi : i < L.length) :
    ∃ g ta tn tc, a = some ⟨g, 0, none⟩ ∧ w.cell? ⟨g, i * 2, none⟩ = some (.int .i64 L[i].k) ∧ w.cell? ⟨g, i * 2 + 1, none⟩ = some (.slice ta tn tc) ∧ HoldsB w w.heap.size (.slice ta tn tc) L[i].l := by
  obtain ⟨A, hr⟩ := h.r
  have ht := h.t _ (List.getElem_mem hi)
  obtain ⟨ta, tn, tc, e5, _⟩ := ht.slice
  obtain ⟨h1, h2⟩ := bdc_at L i hi
  rcases hr.2 with ⟨h9, h8⟩ | ⟨g, cap, cur, h9, _⟩
  · omega
  · cases h9
    refine ⟨g, ta, tn, tc, rfl, ?_, ?_, by rw [← e5]; exact ht⟩
    · rw [hr.cellAt (i * 2) (by omega)]; exact h1
    · rw [hr.cellAt (i * 2 + 1) (by omega), h2, e5]
theorem BRow.len {w : World} {e : TypeId} {v : Value} {L : List BdV} (h : BRow w e v L) : L.length ≤ maxLen := by
  obtain ⟨A, hr⟩ := h.r
  rcases hr.2 with ⟨h9, h8⟩ | ⟨g, cap, cur, h9, _, _, h1, h2, _⟩
  · rw [h8]; unfold maxLen; omega
  · omega
theorem same_at {L1 L2 : List BdV} (h : L1.map (fun x => (x.k, x.l)) = L2.map (fun x => (x.k, x.l))) : L1.length = L2.length ∧ ∀ i (h1 : i < L1.length) (h2 : i < L2.length), L1[i].k = L2[i].k ∧ L1[i].l = L2[i].l := by
  have hl : L1.length = L2.length := by have := congrArg List.length h; simpa using this
  refine ⟨hl, fun i h1 h2 => ?_⟩
  have := congrArg (fun l => l[i]?) h
  simpa [h1, h2] using this
theorem aw_e : bodE 1 [3] 16 = 0 := by decide
theorem aw_l : bodL 1 1 [3] 16 = [(1, [3])] := by decide
set_option maxHeartbeats 3200000 in
theorem awake_any (w : World) : Calls Try.prog 6 #[] w fun r w' => r = .returned (.bool true) ∧ Below w.heap.size w w' := by
  have HX : Kp (HoldsB (w.alloc (.cells #[.int .u8 3] 5)) (w.alloc (.cells #[.int .u8 3] 5)).heap.size (.slice (some ⟨w.heap.size, 0, none⟩) 1 1) [3]) :=
    ⟨HoldsB.ofRow (fun x hx => by simp at hx; omega) (ownsRow_oneB (B := 0) (Nat.zero_le _) (Blk.new _ _))⟩
  go_enter Try.func6, Try.ntmps6
  go_wp2_with fail
  refine (bodies_any 1 1 16 _ [3] _ HX.out (by decide) (by decide)).mono ?_
  rw [aw_e, aw_l]
  rintro r w1 ⟨v, L, rfl, hb, ho, ht, hm⟩
  have E : Kp (Below w.heap.size w w1) := ⟨(more (Below.refl _ _) _).trans (hb.mono (by simp))⟩
  have HR := Kp.mk (BRow.mk ⟨_, ho⟩ ht)
  clear hb ho ht
  have hl : L.length = 1 := by simpa using congrArg List.length hm
  obtain ⟨x, rfl⟩ := List.length_eq_one_iff.1 hl
  have hk : x.k = 1 := by simp at hm; exact hm.1
  obtain ⟨a, c, rfl⟩ := HR.out.shape
  obtain ⟨g, ta, tn, tc, rfl, c0, _, _⟩ := HR.out.at (i := 0) (by simp)
  rw [show ([x] : List BdV)[0].k = 1 from hk] at c0
  clear hm hk hl
  go_wp2_with fail
  go_ret
  exact ⟨rfl, E.out⟩
set_option maxRecDepth 100000 in
set_option maxHeartbeats 12800000 in
theorem buildBodies_walk (kind id : Int) (a : Option Addr) (n cap : Nat) (bl : List Int) (most : Int) (w : World) (_wk : (Lit.int .i64 kind).wf = true) (wi : (Lit.int .u32 id).wf = true) (h : HoldsB w w.heap.size (.slice a n cap) bl) (_wm : (Lit.int .i64 most).wf = true) :
    Calls Try.prog 5 #[.int .i64 kind, .int .u32 id, .slice a n cap, .int .i64 most] w fun r w' => r = .returned (.bool true) ∧ Below w.heap.size w w' := by
  have hid : 0 ≤ id ∧ id ≤ 4294967295 := by simpa [Lit.wf, IntKind.min, IntKind.max, IntKind.signed, IntKind.bits] using wi
  have hn : n = bl.length := by obtain ⟨a1, n1, c1, e1, e2⟩ := h.slice; simp only [Value.slice.injEq] at e1; omega
  have hnm : n ≤ 9223372036854775807 := by have := h.len; unfold maxLen at this; omega
  have H := Kp.mk h
  have HN := Kp.mk hn
  have HID := Kp.mk hid
  obtain ⟨M, hM⟩ : ∃ M, M = w.heap.size := ⟨_, rfl⟩
  rw [← hM] at H ⊢
  have HM := Kp.mk hM
  clear _wk wi h _wm hn hid hM
  by_cases hl : 20000 < n
  · go_enter Try.func5, Try.ntmps5
    go_wp2_with fail
    refine (awake_any _).mono ?_
    rintro r w1 ⟨rfl, hb⟩
    have E := Kp.mk hb
    clear hb
    go_wp2_with fail
    go_ret
    exact ⟨rfl, by rw [HM.out]; exact E.out⟩
  · have HL : Kp (bl.length ≤ 20000) := ⟨by rw [← HN.out]; omega⟩
    have hl2 : (n : Int) ≤ 20000 := by omega
    go_enter Try.func5, Try.ntmps5
    go_wp2_with fail
    refine (bodies_any kind id most _ bl _ (by rw [← HM.out]; exact H.out) HL.out HID.out).mono ?_
    rintro r w1 ⟨v1, L1, rfl, hb, ho, ht, hm1⟩
    have E1 : Kp (Below M w w1) := ⟨by rw [HM.out]; exact hb⟩
    have Z1 : Kp (M ≤ w1.heap.size) := ⟨by rw [HM.out]; exact hb.size⟩
    have R1 := Kp.mk (BRow.mk ⟨_, ho⟩ ht)
    have M1 := Kp.mk hm1
    clear hb ho ht hm1
    have H1 : Kp (HoldsB w1 w1.heap.size (.slice a n cap) bl) := ⟨(H.out.keep (by rw [← HM.out]; exact E1.out)).mono Z1.out⟩
    go_wp2_with fail
    refine (rbodies_any kind id most _ bl _ H1.out HL.out HID.out).mono ?_
    rintro r w2 ⟨v2, L2, rfl, hb, ho, ht, hm2⟩
    have E2 : Kp (Below M w w2) := ⟨E1.out.trans (hb.mono Z1.out)⟩
    have Z2 : Kp (M ≤ w2.heap.size) := ⟨Nat.le_trans Z1.out hb.size⟩
    replace R1 := Kp.mk (R1.out.keep hb)
    have R2 := Kp.mk (BRow.mk ⟨_, ho⟩ ht)
    have HS := Kp.mk (same_at (M1.out.trans hm2.symm))
    clear hb ho ht hm2 M1 H1 E1 Z1
    have hee : (bodE kind bl most != bodE kind bl most) = false := by simp
    generalize bodE kind bl most = er at hee
    go_wp2_with fail
    refine (awake_any _).mono ?_
    rintro r w3 ⟨rfl, hb⟩
    have E3 : Kp (Below M w w3) := ⟨E2.out.trans (hb.mono Z2.out)⟩
    have Z3 : Kp (M ≤ w3.heap.size) := ⟨Nat.le_trans Z2.out hb.size⟩
    replace R1 := Kp.mk (R1.out.keep hb)
    replace R2 := Kp.mk (R2.out.keep hb)
    clear hb E2 Z2
    obtain ⟨p1, c1, rfl⟩ := R1.out.shape
    obtain ⟨p2, c2, rfl⟩ := R2.out.shape
    have HLL := Kp.mk HS.out.1
    rw [← HLL.out] at R2 ⊢
    obtain ⟨m, hm⟩ : ∃ m, m = L1.length := ⟨_, rfl⟩
    have hm9 : m ≤ 9223372036854775807 := by rw [hm]; have := R1.out.len; unfold maxLen at this; omega
    rw [← hm] at R1 R2 ⊢
    have HMM := Kp.mk hm
    have hmm : ((m : Int) != (m : Int)) = false := by simp
    clear hm
    go_wp2_with fail
    obtain ⟨w0, hw0⟩ : ∃ w0, w0 = w3 := ⟨_, rfl⟩
    have R1' : Kp (BRow w0 59 (.slice p1 m c1) L1) := ⟨by rw [hw0]; exact R1.out⟩
    have R2' : Kp (BRow w0 60 (.slice p2 m c2) L2) := ⟨by rw [hw0]; exact R2.out⟩
    have W0 : Kp (∃ k, w3 = w0.drewN k) := ⟨0, hw0.symm⟩
    have E0 : Kp (Below M w w0) := ⟨by rw [hw0]; exact E3.out⟩
    have Z0 : Kp (M ≤ w0.heap.size) := ⟨by rw [hw0]; exact Z3.out⟩
    clear R1 R2 hw0 E3 Z3
    go_loopw [13, 56] (fun _ c wr => ∃ i : Nat, i ≤ m ∧ c = .int .i64 i ∧ Kp (∃ k, wr = w0.drewN k)) (fun _ c _ => m - (intOf c).toNat)
    case atStart => exact ⟨0, by omega, rfl, W0⟩
    case round =>
      clear W0
      obtain ⟨i, hi, rfl, ⟨k, rfl⟩⟩ := hrel
      by_cases hlt : i < m
      · have t1 : (i : Int) < m := by omega
        have HLT := Kp.mk hlt
        have hi1 : i < L1.length := by rw [← HMM.out]; exact hlt
        have hi2 : i < L2.length := by rw [← HLL.out, ← HMM.out]; exact hlt
        obtain ⟨q1, q2⟩ := HS.out.2 i hi1 hi2
        obtain ⟨g1, a1, n1, k1, rfl, x1, y1, z1⟩ := R1'.out.at hi1
        obtain ⟨g2, a2, n2, k2, rfl, x2, y2, z2⟩ := R2'.out.at hi2
        rw [← q1] at x2
        rw [← q2] at z2
        have s1 : ∀ j, (convert 39 9 (.slice a1 n1 k1)).run Try.prog (w0.drewN j) = .ok (.string (strOfNums L1[i].l)) (w0.drewN j) := fun j => ((z1.keep (below_drewN (Below.refl w0.heap.size w0) j))).text
        have s2 : ∀ j, (convert 39 9 (.slice a2 n2 k2)).run Try.prog (w0.drewN j) = .ok (.string (strOfNums L1[i].l)) (w0.drewN j) := fun j => ((z2.keep (below_drewN (Below.refl w0.heap.size w0) j))).text
        clear q1 q2 z1 z2 hlt
        generalize L1[i].k = kk at x1 x2
        generalize strOfNums L1[i].l = ss at s1 s2
        have e1 : (kk != kk) = false := by simp
        have e2 : (ss.toList == ss.toList) = true := by simp
        go_wp2_with fail
        go_quiet (fail)
        go_wp2_with fail
        exact ⟨⟨i + 1, by have := HLT.out; omega, by go_num, ⟨_, rfl⟩⟩, by have := HLT.out; simp [intOf]; omega⟩
      · obtain rfl : i = m := by omega
        have E4 : Kp (Below M w (w0.drewN k)) := ⟨E0.out.trans ((below_drewN (Below.refl w0.heap.size w0) k).mono Z0.out)⟩
        have Z4 : Kp (M ≤ (w0.drewN k).heap.size) := ⟨Z0.out⟩
        clear R1' R2' E0 Z0
        generalize w0.drewN k = w4 at E4 Z4 ⊢
        go_wp2_with fail
        refine (whole_any _ bl _ ((H.out.keep (by rw [← HM.out]; exact E4.out)).mono Z4.out) HL.out).mono ?_
        rintro r w5 ⟨a5, n5, c5, rfl, h5, hb⟩
        have E5 : Kp (Below M w w5) := ⟨E4.out.trans (hb.mono Z4.out)⟩
        have Z5 : Kp (M ≤ w5.heap.size) := ⟨Nat.le_trans Z4.out hb.size⟩
        have H5 := Kp.mk h5
        clear hb h5 E4 Z4
        go_wp2_with fail
        refine (rwhole_any _ bl _ ((H.out.keep (by rw [← HM.out]; exact E5.out)).mono Z5.out) HL.out).mono ?_
        rintro r w6 ⟨a6, n6, c6, rfl, h6, hb⟩
        have E6 : Kp (Below M w w6) := ⟨E5.out.trans (hb.mono Z5.out)⟩
        have s5 := (H5.out.grow hb).text
        have s6 := h6.text
        clear hb h6 E5 Z5 H5
        generalize strOfNums (whT bl) = ss at s5 s6
        generalize whK bl = kk
        generalize whE bl = ee
        have e1 : (kk == kk) = true := by simp
        have e2 : (ss.toList == ss.toList) = true := by simp
        have e3 : (ee == ee) = true := by simp
        go_wp2_with fail
        go_ret
        exact ⟨rfl, E6.out⟩
end Go.Proofs.Ytioeaknhcfkfcaa

namespace Go.Proofs.Ytioeaknhcfkfcaa
open Go.RowKit

theorem TB.grown {w w' : World} {A B e s n : Nat} {v u : Value} {L : List (Value × List Int)} {xs : List Value} (h : TB w A v L) (ho : w.ownsRow B e s u n xs) (h5 : e ≠ 5) (h39 : 39 ≠ e) (hg : w.grownBy w' u.ownBlock) : TB w' A v L :=
  ⟨own_grown h.r ho h39 hg, fun x hx => (h.t x hx).grown ho h5 hg⟩
theorem TB.at' {w : World} {A : Nat} {a : Option Addr} {n c : Nat} {L : List (Value × List Int)} (h : TB w A (.slice a n c) L) {i : Nat} (hi : i < L.length) :
    ∃ g ta tn tc, a = some ⟨g, 0, none⟩ ∧ w.cell? ⟨g, i, none⟩ = some (.slice ta tn tc) ∧ HoldsB w w.heap.size (.slice ta tn tc) L[i].2 := by
  have ht := (h.t _ (List.getElem_mem hi)).1
  obtain ⟨ta, tn, tc, e5, _⟩ := ht.slice
  rcases h.r.2 with ⟨h9, h8⟩ | ⟨g, cap, cur, h9, _⟩
  · omega
  · cases h9
    refine ⟨g, ta, tn, tc, rfl, ?_, by rw [← e5]; exact ht⟩
    have h7 := h.r.cellAt i (by omega)
    rw [h7, List.getElem?_map, List.getElem?_eq_getElem hi, ← e5]
    rfl
theorem TB.len' {w : World} {A : Nat} {v : Value} {L : List (Value × List Int)} (h : TB w A v L) : L.length ≤ maxLen := by
  rcases h.r.2 with ⟨h9, h8⟩ | ⟨g, cap, cur, h9, _, _, h1, h2, _⟩
  · rw [h8]; unfold maxLen; omega
  · omega
theorem EOs.cap' {W : World} {te t base : Nat} {a : Option Addr} {n c : Nat} {xs : List E3} (h : EOs W te t base (.slice a n c) xs) : n ≤ c := by
  have hl := ownsRow_len h.v
  rcases h.v.2 with ⟨h9, h8⟩ | ⟨g, cap, cur, h9, _, _, h1, h2, _⟩
  · simp only [Value.slice.injEq] at h9; omega
  · simp only [Value.slice.injEq] at h9; omega
theorem ecs_len {W : World} {t base : Nat} : ∀ (xs : List E3), (∀ z ∈ xs, EOw W t base z) → (ecs xs).length = xs.length * 22
  | [], _ => rfl
  | z :: r, h => by
    show (ec z.1 ++ ecs r).length = _
    rw [List.length_append, ec_len (h z (by simp)).l, ecs_len r (fun y hy => h y (by simp [hy]))]
    simp
    omega
theorem ecs_one {W : World} {t base : Nat} : ∀ (xs : List E3), (∀ z ∈ xs, EOw W t base z) → ∀ u ∈ ecs xs, u.oneCell' = true
  | [], _, u, hu => by cases hu
  | z :: r, h, u, hu => by
    rcases List.mem_append.1 (show u ∈ ec z.1 ++ ecs r from hu) with hu | hu
    · exact List.all_eq_true.1 (by simpa using ec_one z.1) u hu
    · exact ecs_one r (fun y hy => h y (by simp [hy])) u hu
/-- Own entries, as news for an append. -/
theorem EOs.news {W : World} {te t base : Nat} {a : Option Addr} {n c : Nat} {xs : List E3} (h : EOs W te t base (.slice a n c) xs) (hn : 0 < n) :
    ∃ g, a = some ⟨g, 0, none⟩ ∧ ∀ j u, (ecs xs)[j]? = some u → W.cell? ((⟨g, 0, none⟩ : Addr).add j) = some u := by
  have hl := ownsRow_len h.v
  rcases h.v.2 with ⟨h9, h8⟩ | ⟨g, cap, cur, h9, _⟩
  · omega
  · cases h9
    refine ⟨g, rfl, fun j u hu => ?_⟩
    have hj : j < xs.length * 22 := by
      have := (List.getElem?_eq_some_iff.1 hu).1
      rw [ecs_len xs h.e] at this
      exact this
    rw [add_off, Nat.zero_add, h.v.cellAt j hj]
    exact hu
/-- The law, over the updates. -/
structure BA (w : World) (A : Nat) (a : Option Addr) (n : Nat) (f g : Nat → E3) (uv gv : Value) (L : List (Value × List Int)) (ys : List E3) (W : World) : Prop where
  tb : TB W A uv L
  es : EOs W 32 27 A gv ys
  sm : ∀ i z, ys[i]? = some z → SameE (g i) z
  o : HoldsW W A a n f
  below : Below A w W
  le : A ≤ W.heap.size
theorem BA.more {w W W' : World} {A n : Nat} {a : Option Addr} {f g : Nat → E3} {uv gv : Value} {L : List (Value × List Int)} {ys : List E3} (h : BA w A a n f g uv gv L ys W) (hb : Below W.heap.size W W') : BA w A a n f g uv gv L ys W' :=
  ⟨h.tb.keep hb, h.es.keep hb, h.sm, h.o.keep hb, h.below.trans (hb.mono h.le), Nat.le_trans h.le hb.size⟩
theorem info32z : (Try.prog.info? 32).map (fun i => (i.zero, i.size, i.bytes)) = some (some (.agg (ec x0).toArray), 22, 88) := info105z
set_option maxRecDepth 100000 in
set_option maxHeartbeats 32000000 in
theorem buildAll_walk (a : Option Addr) (n c : Nat) (f : Nat → E3) (u : Bool) (most : Int) (w : World) (h : HoldsO w a n f) (hn : n ≤ 262144) (hl : ∀ i, i < n → (f i).1.wn ≤ 65535 ∧ (f i).1.pn ≤ 65535) (_wm : (Lit.int .i64 most).wf = true) :
    Calls Try.prog 4 #[.slice a n c, .bool u, .int .i64 most] w fun r w' => r = .returned (.bool true) ∧ Below w.heap.size w w' := by
  obtain ⟨A, hA⟩ : ∃ A, A = w.heap.size := ⟨_, rfl⟩
  have HAe := Kp.mk hA
  have HN := Kp.mk hn
  have hn9 : n ≤ 9223372036854775807 := by omega
  have HW0 : Kp (HoldsW w A a n f) := ⟨by rw [hA]; exact h.weak hl⟩
  clear h hl _wm
  go_enter Try.func4, Try.ntmps4
  go_wp2_with fail
  refine (entries_any a n c f w (by rw [← HAe.out]; exact HW0.out) (by have := HN.out; omega)).mono ?_
  rintro r w1 ⟨a1, c1, xs, rfl, hes, hxl, hxs, hb⟩
  have hmh := made_holds HW0.out hes hxl hxs
  obtain ⟨g, hg⟩ : ∃ g, g = nthE xs := ⟨_, rfl⟩
  rw [← hg] at hmh
  have HE1 : Kp (HoldsE w1 w1.heap.size a1 n g) := ⟨hmh.1⟩
  have HSM : Kp (∀ j, j < n → SameE (f j) (g j)) := ⟨hmh.2⟩
  have HW1 : Kp (HoldsW w1 A a n f ∧ Below A w w1 ∧ A ≤ w1.heap.size) := ⟨HW0.out.keep hb, by rw [hA]; exact hb, by rw [hA]; exact hb.size⟩
  clear hes hxl hxs hb hmh hg hA
  go_wp2_with fail
  refine (putUpdate_any false a1 n c1 g w1 HE1.out (by have := HN.out; omega)).mono ?_
  rintro r w2 ⟨v2, rfl, ho, hB, hb⟩
  have HW2 : Kp (HoldsW w2 A a n f ∧ Below A w w2 ∧ A ≤ w2.heap.size) := ⟨HW1.out.1.keep hb, HW1.out.2.1.trans (hb.mono HW1.out.2.2), Nat.le_trans HW1.out.2.2 hb.size⟩
  have HT2 := Kp.mk (HoldsB.ofRow hB ho)
  have HEf : Kp (updE f n = updE g n) := ⟨same_updE HSM.out⟩
  have HXP : Kp (updE g n = 0 → 0 < (updX false g n).length) := ⟨fun h0 => updX_pos' h0⟩
  obtain ⟨E, hE⟩ : ∃ E, E = updE g n := ⟨_, rfl⟩
  rw [← hE] at HEf HXP ⊢
  have HE9 := Kp.mk hE
  obtain ⟨X, hX⟩ : ∃ X, X = updX false g n := ⟨_, rfl⟩
  rw [← hX] at HT2 HXP
  have hx9 : X.length ≤ 9223372036854775807 := by have := HT2.out.len; unfold maxLen at this; omega
  obtain ⟨va, vn, vc, rfl, hvn⟩ := HT2.out.slice
  obtain rfl := hvn
  obtain ⟨ln, hln⟩ : ∃ ln, ln = X.length := ⟨_, rfl⟩
  rw [← hln] at hx9 HXP ⊢
  clear ho hB hb hE hX hln HE1 HW1 HT2 HW0
  have AW : Kp (∀ w9 : World, Below A w w9 → A ≤ w9.heap.size → True) := ⟨fun _ _ _ => trivial⟩
  by_cases h8 : 8 < n
  · have h8' : (8 : Int) < n := by omega
    go_wp2_with fail
    refine (awake_any _).mono ?_
    rintro r w3 ⟨rfl, hb⟩
    have EE : Kp (Below A w w3) := ⟨HW2.out.2.1.trans (hb.mono HW2.out.2.2)⟩
    clear hb
    go_wp2_with fail
    go_ret
    exact ⟨rfl, by rw [← HAe.out]; exact EE.out⟩
  · have h8' : ¬ (8 : Int) < n := by omega
    by_cases hE0 : E = 0
    · have e2 : (E != 0) = false := by simp [hE0]
      have HL0 := Kp.mk (HXP.out hE0)
      have hl0 : ¬ ((ln : Int) = 0) := by have := HL0.out; omega
      have hl1 : ((ln : Int) == 0) = false := by simp; have := HL0.out; omega
      have HN8 : Kp (n ≤ 8) := ⟨by omega⟩
      have HEZ : Kp (updE f n = 0) := ⟨by rw [HEf.out]; exact hE0⟩
      clear hE0
      go_wp2_with fail
      refine (entries_any a n c f w2 (HW2.out.1.mono HW2.out.2.2) (by have := HN8.out; omega)).mono ?_
      rintro r w3 ⟨a3, c3, xs, rfl, hes, hxl, hxs, hb⟩
      have hmh := made_holds HW2.out.1 hes hxl hxs
      obtain ⟨g3, hg⟩ : ∃ g3, g3 = nthE xs := ⟨_, rfl⟩
      rw [← hg] at hmh
      have HE3 : Kp (HoldsE w3 w3.heap.size a3 n g3 ∧ n ≤ c3) := ⟨hmh.1, hes.cap'⟩
      have HS3 : Kp (∀ j, j < n → SameE (f j) (g3 j)) := ⟨hmh.2⟩
      have HW3 : Kp (HoldsW w3 A a n f ∧ Below A w w3 ∧ A ≤ w3.heap.size) := ⟨HW2.out.1.keep hb, HW2.out.2.1.trans (hb.mono HW2.out.2.2), Nat.le_trans HW2.out.2.2 hb.size⟩
      have HEZ3 : Kp (updE g3 n = 0) := ⟨by rw [← same_updE HS3.out]; exact HEZ.out⟩
      have PU : Kp (∀ (k m : Nat) (zs : List E3), k + m ≤ n → (updX u (sh g3 k) m).length ≤ 140737488351232 ∧ ((∀ j z, zs[j]? = some z → uE (updX u (sh g3 k) m) j z) → (∀ z ∈ zs, z.2.1.length = z.1.wn * 16 ∧ z.2.2.length = z.1.pn * 16) → uEnd (updX u (sh g3 k) m) = 0 ∧ (decide (uEnd (updX u (sh g3 k) m) = 0) && (uFull (updX u (sh g3 k) m) == 1)) = u ∧ uM (updX u (sh g3 k) m) = m ∧ (zs.length = m → ∀ i, i < m → SameE (nthE zs i) (sh g3 k i)))) := ⟨fun k m zs hkm => by
        have hh : HoldsE w3 w3.heap.size (a3.map (·.add (k * 22))) (n - k) (sh g3 k) := HE3.out.1.from (fun _ => rfl)
        have hh2 := hh.take (m := m) (by omega)
        exact ⟨updX_len hh2, fun q1 q2 => laid_same hh2 (updE_sub HEZ3.out hkm) q1 q2⟩⟩
      have HG3 := Kp.mk HE3.out.1.weak
      clear hes hxl hxs hb hmh hg HW2 e2 hl0 hl1 HL0 h8' h8 hx9 HEf HXP HE9 HSM AW
      go_wp2_with fail
      refine (updates_any u a3 n c3 g3 most w3 HE3.out.1 (by have := HN8.out; omega) HE3.out.2).mono ?_
      rintro r w4 ⟨a4, c4, L, rfl, hT, hL, hb⟩
      have S0 : Kp (BA w A a n f g3 (.slice a4 L.length c4) (.slice none 0 0) L [] w4) := ⟨hT.base HW3.out.2.2, ⟨World.ownsRow_nil _ _ _ _, fun z hz => by cases hz⟩, fun i z hz => by simp at hz, HW3.out.1.keep hb, HW3.out.2.1.trans (hb.mono HW3.out.2.2), Nat.le_trans HW3.out.2.2 hb.size⟩
      have HLU := Kp.mk hL
      obtain ⟨q, hq⟩ : ∃ q, q = L.length := ⟨_, rfl⟩
      rw [← hq] at S0 ⊢
      have HQ := Kp.mk hq
      have hq9 : q ≤ 9223372036854775807 := by rw [hq]; have := hT.len'; unfold maxLen at this; omega
      obtain ⟨i0, hi0, hz0, hz1, hz2⟩ := info_parts info32z
      clear hT hL hb HW3 HE3 hq
      go_wp2_with fail
      go_loopw [9, 40] (fun gv ct wr => ∃ (j k : Nat) (ga : Option Addr) (gn gc : Nat) (ys : List E3), ct = .int .i64 j ∧ gv = .slice ga gn gc ∧ Kp (j ≤ q ∧ k ≤ n ∧ ys.length = k) ∧ Kp ((L.drop j).map (·.2) = upds u g3 most (n - k) k) ∧ Kp (BA w A a n f g3 (.slice a4 q c4) (.slice ga gn gc) L ys wr)) (fun _ ct _ => q - (intOf ct).toNat)
      case atStart => exact ⟨0, 0, none, 0, 0, [], rfl, rfl, ⟨by omega, by omega, rfl⟩, ⟨by rw [List.drop_zero, Nat.sub_zero]; exact HLU.out⟩, S0⟩
      case round =>
        clear S0
        obtain ⟨j, k, ga, gn, gc, ys, rfl, rfl, HJ, HD, HB⟩ := hrel
        by_cases hlt : j < q
        · have HLT := Kp.mk hlt
          have hj1 : j < L.length := by rw [← HQ.out]; exact hlt
          have hdr := List.drop_eq_getElem_cons hj1
          have hnk : 0 < n - k := by
            rcases Nat.eq_zero_or_pos (n - k) with h0 | h0
            · have h1 := HD.out
              rw [h0, upds_zero] at h1
              have h2 := congrArg List.length h1
              simp at h2
              omega
            · exact h0
          have hfl := fit_le (u := u) (f := sh g3 k) (most := most) hnk
          have hmo : 1 < fit u (sh g3 k) (n - k) most → ((updX u (sh g3 k) (fit u (sh g3 k) (n - k) most)).length : Int) ≤ most := fit_most
          have h1 := HD.out
          rw [hdr, upds_one HEZ3.out (by have := HJ.out; omega) hnk, List.map_cons] at h1
          obtain ⟨hLj, hLr⟩ := List.cons.inj h1
          obtain ⟨m, hm⟩ : ∃ m, m = fit u (sh g3 k) (n - k) most := ⟨_, rfl⟩
          rw [← hm] at hfl hLj hLr hmo
          have HM : Kp (1 ≤ m ∧ k + m ≤ n) := ⟨hfl.1, by omega⟩
          have HLR := Kp.mk hLr
          obtain ⟨tg, ta, tn, tc, hq5, x1, z1⟩ := HB.out.tb.at' hj1
          rw [hLj] at z1
          have PU0 := (PU.out k m [] HM.out.2).1
          have PU1 := fun zs => (PU.out k m zs HM.out.2).2
          obtain ⟨X5, hX5⟩ : ∃ X5, X5 = updX u (sh g3 k) m := ⟨_, rfl⟩
          rw [← hX5] at z1 PU0 PU1 hmo
          have HX5 := Kp.mk z1
          have htn : tn = X5.length := by obtain ⟨b1, b2, b3, b4, b5⟩ := z1.slice; simp only [Value.slice.injEq] at b4; omega
          rw [← htn] at hmo
          have HMO := Kp.mk hmo
          have PU2 := Kp.mk PU1
          have PU3 := Kp.mk PU0
          have htn9 : tn ≤ 9223372036854775807 := by omega
          subst hq5
          clear hj1 hdr hnk hfl h1 hLj hLr hm z1 hX5 htn PU0 PU1 hmo HD
          go_wp2_with fail
          refine (getUpdate_any _ (.slice ta tn tc) X5 wr HX5.out PU3.out).mono ?_
          rintro r w5 ⟨a5, n5, c5, zs, rfl, hes5, hgd, hb⟩
          obtain ⟨hn5, hE5, hl5, hu5⟩ := ug_holds HX5.out.bytes hes5 hgd
          obtain ⟨p1, p2, p3, p4⟩ := PU2.out zs hu5 hl5
          have hn6 : m = n5 := (hn5.trans p3).symm
          subst hn6
          rw [p2, p1]
          have HSM5 : Kp (∀ i, i < m → SameE (nthE zs i) (g3 (k + i))) := ⟨p4 (ownsRow_len hes5.v).symm⟩
          have HE5 := Kp.mk hE5
          have HB5 := Kp.mk (HB.out.more hb)
          obtain ⟨Q, hQ⟩ : ∃ Q, Q = w5.heap.size := ⟨_, rfl⟩
          have HQe := Kp.mk hQ
          have hm0 : ((m : Int) == 0) = false := by simp; have := HM.out.1; omega
          have hm1 : ¬ ((m : Int) = 0) := by have := HM.out.1; omega
          have huu : (u != u) = false := by simp
          have hm9 : m ≤ 9223372036854775807 := by have := HM.out; omega
          clear hes5 hgd hb hn5 hE5 hl5 hu5 p1 p2 p3 p4 HB x1 hQ hlt
          by_cases hgt : 1 < m
          case' pos =>
            have g1 : (1 : Int) < m := by omega
            have g2 : ¬ most < (tn : Int) := by have := HMO.out hgt; omega
            clear hgt
          case' neg =>
            have g1 : ¬ (1 : Int) < m := by omega
            have g2 : True := trivial
            clear hgt
          all_goals
            go_wp2_with (refine wpList_store_row rfl 45 (.tmp 12) (.tmp 47) rfl w5.heap.size #[.bool u, .slice a5 m c5] rfl rfl 45 _ (Blk.newAt _ rfl) info57t rfl (u_oneB _ _ _ _) ?_; rw [World.setRow_alloc_new, ← HQe.out]; refine wpl_world (fun W => BA w A a n f g3 (.slice (some ⟨tg, 0, none⟩) q c4) (.slice ga gn gc) L ys W ∧ Blk W Q (.cells #[.bool u, .slice a5 m c5] 45) ∧ HoldsE W Q a5 m (nthE zs)) ⟨HB5.out.more (more (Below.refl _ _) _), Blk.newAt _ HQe.out, by rw [HQe.out]; exact HE5.out.keep (more (Below.refl _ _) _)⟩ ?_; rintro W6 h6; have S6 := Kp.mk h6; have y0 : W6.cell? ⟨Q, 0, none⟩ = some (.bool u) := h6.2.1.cell 0; have y1 : W6.cell? ⟨Q, 1, none⟩ = some (.slice a5 m c5) := h6.2.1.cell 1; clear h6)
            refine (back_any a5 m c5 (nthE zs) W6 (S6.out.2.2.weak.mono (Nat.le_of_lt S6.out.2.1.lt)) (by have := HM.out; have := HN8.out; omega)).mono ?_
            rintro r w7 ⟨a7, c7, ps, rfl, hes7, hpl, hps, hb⟩
            have HB7 := Kp.mk (S6.out.1.more hb)
            obtain ⟨g7, hg7, hnw⟩ := hes7.news HM.out.1
            subst hg7
            have HES7 : Kp (EOs w7 32 27 A (.slice (some ⟨g7, 0, none⟩) m c7) ps) := ⟨EOs.base hes7 (by have := S6.out.1.le; omega)⟩
            have HNW := Kp.mk hnw
            have HPL := Kp.mk hpl
            have HPS : Kp (∀ i z, ps[i]? = some z → SameE (g3 (k + i)) z) := ⟨fun i z hz => by
              have hi : i < m := by rw [← hpl]; exact (List.getElem?_eq_some_iff.1 hz).1
              exact (HSM5.out i hi).symm.trans (hps i z hz)⟩
            clear hes7 hpl hps hb hnw S6 y0 y1
            obtain rfl : gn = ys.length := ownsRow_len HB7.out.es.v
            have hfd : ∀ w, (Instr.field 49 (.agg #[.bool false, .slice (some ⟨g7, 0, none⟩) m c7]) 1).run Try.prog w = .ok (.slice (some ⟨g7, 0, none⟩) m c7) w := fun w => by rfl
            go_wp2_with (at_builtin; refine wpList_append_own _ rfl _ _ 22 rfl A 32 i0 (.agg (ec x0).toArray) 22 88 Try.underlying22 hi0 hz0 hz1 hz2 rfl (by decide) _ ys.length (ecs ys) rfl HB7.out.es.v ⟨g7, 0, none⟩ m c7 (ecs ps) rfl ?c0 ?c1 ?c2 ?c3 ?c4 ?c5 ?_)
            case c0 => rw [ecs_len ps HES7.out.e, HPL.out]
            case c1 => exact HNW.out
            case c2 => exact ecs_one ps HES7.out.e
            case c3 => have := HJ.out; have := HM.out; have := HN8.out; unfold maxLen; omega
            case c4 => have := HJ.out; have := HM.out; have := HN8.out; omega
            case c5 => exact HB7.out.le
            · intro v' w8 hown' hgrow _
              obtain ⟨a9, n9, c9, rfl⟩ : ∃ a n c, v' = .slice a n c := by rcases hown'.2 with ⟨e9, _⟩ | ⟨g, cap, cur, e9, _⟩ <;> exact ⟨_, _, _, e9⟩
              have hbe : Below A w7 w8 := below_row_grown (Below.refl _ _) HB7.out.le HB7.out.es.v hgrow
              have HB8 : Kp (BA w A a n f g3 (.slice (some ⟨tg, 0, none⟩) q c4) (.slice a9 n9 c9) L (ys ++ ps) w8) := ⟨⟨HB7.out.tb.grown HB7.out.es.v (by decide) (by decide) hgrow, HB7.out.es.cat HES7.out (by decide) (by rw [HPL.out]; exact hown') hgrow, fun i z hz => by
                by_cases hi : i < ys.length
                · rw [List.getElem?_append_left hi] at hz
                  exact HB7.out.sm i z hz
                · rw [List.getElem?_append_right (by omega)] at hz
                  have h9 := HPS.out _ z hz
                  rw [← HJ.out.2.2, show ys.length + (i - ys.length) = i by omega] at h9
                  exact h9, HB7.out.o.upto hbe (Nat.le_refl _), HB7.out.below.trans hbe, Nat.le_trans HB7.out.le hbe.size⟩⟩
              have HD8 : Kp ((L.drop (j + 1)).map (·.2) = upds u g3 most (n - (k + m)) (k + m)) := ⟨by rw [show n - (k + m) = n - k - m by omega]; exact HLR.out⟩
              have HJ8 : Kp (j + 1 ≤ q ∧ k + m ≤ n ∧ (ys ++ ps).length = k + m) := ⟨by have := HLT.out; omega, HM.out.2, by rw [List.length_append, HPL.out, HJ.out.2.2]⟩
              clear hown' hgrow hbe HB7
              have hjq : j < q := HLT.out
              go_wp2_with fail
              exact ⟨⟨j + 1, k + m, _, _, _, _, by go_num, rfl, HJ8, HD8, HB8⟩, by have := HLT.out; simp [intOf]; omega⟩
        · obtain rfl : j = q := by have := HJ.out; omega
          have hkn : k = n := by
            rcases Nat.eq_zero_or_pos (n - k) with h0 | h0
            · have := HJ.out; omega
            · have h1 := HD.out
              rw [HQ.out, List.drop_length, upds_one HEZ3.out (by have := HJ.out; omega) h0] at h1
              simp at h1
          subst hkn
          have hyl : ys.length = k := HJ.out.2.2
          obtain rfl : gn = k := (ownsRow_len HB.out.es.v).trans hyl
          have hmy := made_holds HG3.out HB.out.es hyl HB.out.sm
          clear HD HJ hyl
          go_wp2_with fail
          refine (awake_any _).mono ?_
          rintro r w8 ⟨rfl, hb⟩
          have HY : Kp (HoldsW w8 wr.heap.size ga gn (nthE ys)) := ⟨(hmy.1.keep hb).weak⟩
          have HO8 : Kp (HoldsW w8 A a gn f ∧ Below A w w8 ∧ A ≤ w8.heap.size) := ⟨HB.out.o.keep hb, HB.out.below.trans (hb.mono HB.out.le), Nat.le_trans HB.out.le hb.size⟩
          have HSS : Kp (∀ i, i < gn → SameE (nthE ys i) (f i)) := ⟨fun i hi => (hmy.2 i hi).symm.trans (HS3.out i hi).symm⟩
          clear hb hmy HB
          go_wp2_with fail
          refine (sameUpdate_any wr.heap.size A false gn ga gc a c (nthE ys) f w8 HY.out HO8.out.1 HSS.out (by have := HN8.out; omega)).mono ?_
          rintro r w9 ⟨rfl, hb⟩
          have EE : Kp (Below A w w9) := ⟨HO8.out.2.1.trans (hb.mono HO8.out.2.2)⟩
          clear hb
          go_wp2_with fail
          go_ret
          exact ⟨rfl, by rw [← HAe.out]; exact EE.out⟩
    · have e2 : (E != 0) = true := by simp [hE0]
      clear hE0
      go_wp2_with fail
      refine (awake_any _).mono ?_
      rintro r w3 ⟨rfl, hb⟩
      have EE : Kp (Below A w w3) := ⟨HW2.out.2.1.trans (hb.mono HW2.out.2.2)⟩
      clear hb
      go_wp2_with fail
      go_ret
      exact ⟨rfl, by rw [← HAe.out]; exact EE.out⟩
end Go.Proofs.Ytioeaknhcfkfcaa
