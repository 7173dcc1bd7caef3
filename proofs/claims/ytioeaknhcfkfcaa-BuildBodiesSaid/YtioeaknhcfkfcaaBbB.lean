/-
  Bodies: what they are; isWhole; the program's Bodies.
-/
import Derived.Test.YtioeaknhcfkfcaaBbA
import Derived.Test.YtioeaknhcfkfcaaClone
import Derived.Deep.MidRow
import Derived.IntWalk
namespace Go.Proofs.Ytioeaknhcfkfcaa
open Go.RowKit

structure BdV where
  k : Int
  v : Value
  l : List Int
def bdc (x : BdV) : List Value := [.int .i64 x.k, x.v]
theorem bdc_len (L : List BdV) : (L.flatMap bdc).length = L.length * 2 := by
  induction L with
  | nil => rfl
  | cons x t ih => rw [List.flatMap_cons, List.length_append, ih]; simp [bdc]; omega
theorem bdc_snoc (L : List BdV) (x : BdV) : L.flatMap bdc ++ [.int .i64 x.k, x.v] = (L ++ [x]).flatMap bdc := by simp [bdc]
def pieceT (id : Int) (all : List Int) (sz m k : Nat) : List Int := putM ⟨id, k, m, none, 0, 0⟩ (pieceL all sz k)
def pieceTs (id : Int) (all : List Int) (sz m i : Nat) : List (Int × List Int) := (List.range i).map fun k => (4, pieceT id all sz m k)
theorem pieceTs_snoc (id : Int) (all : List Int) (sz m i : Nat) : pieceTs id all sz m (i + 1) = pieceTs id all sz m i ++ [(4, pieceT id all sz m i)] := by simp [pieceTs, List.range_succ]
def okB (kind most : Int) : Bool := decide (1 ≤ kind ∧ kind ≤ 3 ∧ 16 ≤ most ∧ most ≤ 4096)
def bodE (kind : Int) (bl : List Int) (most : Int) : Int :=
  if okB kind most = false then 1 else if (bl.length : Int) ≤ most then 0 else if 16384 < bl.length + 1 then 1 else if 32 < manyN (bl.length + 1) (most - 8).toNat then 8 else 0
def bodL (kind id : Int) (bl : List Int) (most : Int) : List (Int × List Int) :=
  if bodE kind bl most ≠ 0 then [] else if (bl.length : Int) ≤ most then [(kind, bl)] else pieceTs id (kind :: bl) (most - 8).toNat (manyN (bl.length + 1) (most - 8).toNat) (manyN (bl.length + 1) (most - 8).toNat)
/-- What Bodies answers: a row of bodies in new memory (elements of type e), and an error. -/
def BodPost (e : TypeId) (bs : List (Int × List Int)) (err : Int) (w : World) (r : Ending) (w' : World) : Prop :=
  ∃ v L, r = .returned (.tuple #[v, .int .i64 err]) ∧ Below w.heap.size w w' ∧ w'.ownsRow w.heap.size e 2 v (List.length L) (L.flatMap bdc) ∧ (∀ x ∈ L, HoldsB w' w'.heap.size x.v x.l) ∧ L.map (fun x => (x.k, x.l)) = bs
theorem BodPost.none {e : TypeId} {err : Int} {w w' : World} (hb : Below w.heap.size w w') : BodPost e [] err w (.returned (.tuple #[.slice none 0 0, .int .i64 err])) w' :=
  ⟨_, [], rfl, hb, World.ownsRow_nil _ _ _ _, (fun x hx => by cases hx), rfl⟩
def wholeB (k : Int) : Bool := decide (1 ≤ k ∧ k ≤ 3)
set_option maxHeartbeats 800000 in
theorem isWhole_any (k : Int) (w : World) : Calls Try.prog 39 #[.int .i64 k] w fun r w' => r = .returned (.bool (wholeB k)) ∧ w = w' := by
  by_cases h1 : k = 1
  · subst h1
    go_enter Try.func39, Try.ntmps39
    go_wp2_with fail
    go_ret
    exact ⟨rfl, rfl⟩
  by_cases h2 : k = 2
  · subst h2
    go_enter Try.func39, Try.ntmps39
    go_wp2_with fail
    go_ret
    exact ⟨rfl, rfl⟩
  by_cases h3 : k = 3
  · subst h3
    go_enter Try.func39, Try.ntmps39
    go_wp2_with fail
    go_ret
    exact ⟨rfl, rfl⟩
  have H : Kp (wholeB k = false) := ⟨by simp [wholeB]; omega⟩
  have e1 : (k == 1) = false := by simp [h1]
  have e2 : (k == 2) = false := by simp [h2]
  have e3 : (k == 3) = false := by simp [h3]
  clear h1 h2 h3
  go_enter Try.func39, Try.ntmps39
  go_wp2_with fail
  go_ret
  exact ⟨retb H.out.symm, rfl⟩
theorem info59' : (Try.prog.info? 59).map (fun i => (i.zero, i.size, i.bytes)) = some (some (.agg #[.int .i64 0, .slice none 0 0]), 2, 32) := by kernel_rfl
theorem info60' : (Try.prog.info? 60).map (fun i => (i.zero, i.size, i.bytes)) = some (some (.agg #[.int .i64 0, .slice none 0 0]), 2, 32) := by kernel_rfl
theorem pieceL_len {bl : List Int} {sz k : Nat} : (pieceL bl sz k).length ≤ sz := by
  unfold pieceL
  rw [List.length_drop, List.length_take, Nat.succ_mul]
  omega
theorem ownsRow_two {w : World} {B g : Nat} {e : TypeId} {x y : Value} (hB : B ≤ g) (h : Blk w g (.cells #[x, y] e)) : w.ownsRow B e 2 (.slice (some ⟨g, 0, none⟩) 1 1) 1 [x, y] :=
  ⟨rfl, .inr ⟨g, 1, #[x, y], rfl, hB, h, Nat.le_refl _, by unfold maxLen; omega, rfl, rfl⟩⟩
theorem ownsRow_oneB {w : World} {B g : Nat} {x : Int} (hB : B ≤ g) (h : Blk w g (.cells #[.int .u8 x] 5)) : w.ownsRow B 5 1 (.slice (some ⟨g, 0, none⟩) 1 1) 1 (bv [x]) :=
  ⟨rfl, .inr ⟨g, 1, _, rfl, hB, h, Nat.le_refl _, by unfold maxLen; omega, rfl, rfl⟩⟩
/-- A row of other elements grows: rows of bytes stay. -/
theorem HoldsT.grown {w w' : World} {B e s n : Nat} {v u : Value} {xs : List Value} {l : List Int} (h : HoldsT w v l) (ho : w.ownsRow B e s u n xs) (hne : e ≠ 5) (hg : w.grownBy w' u.ownBlock) : HoldsT w' v l := by
  have key : ∀ k, v.ownBlock = some k → w'.heap[k]? = w.heap[k]? := fun k hk => by
    obtain ⟨cur, hc⟩ := h.2 k hk
    refine hg.block k (Array.getElem?_eq_some_iff.1 hc).1 fun e2 => ?_
    obtain ⟨c2, hc2⟩ := ownsRow_type ho e2.symm
    rw [hc] at hc2
    injection hc2 with e3
    injection e3 with _ e4
    exact hne e4.symm
  refine ⟨?_, fun k hk => by obtain ⟨cur, hc⟩ := h.2 k hk; exact ⟨cur, (key k hk).trans hc⟩⟩
  obtain ⟨a, cap, h1, h2, h3, h4, h5, h6, h7⟩ := h.1
  refine ⟨a, cap, h1, h2, h3, h4, fun x hx h0 => ?_, fun x i hx hi => ?_, h7⟩
  · obtain ⟨q1, q2, q3⟩ := h5 x hx h0
    exact ⟨q1, Nat.lt_of_lt_of_le q3 hg.size, Nat.lt_of_lt_of_le q3 hg.size⟩
  · rw [← h6 x i hx hi]
    exact World.cell?_of_block (a := ⟨x.block, x.off + i, none⟩) (key x.block (by rw [h1, hx]; rfl))
set_option maxRecDepth 100000 in
set_option maxHeartbeats 6400000 in
theorem bodies_any (kind id most : Int) (v : Value) (bl : List Int) (w : World) (h : HoldsB w w.heap.size v bl) (hl : bl.length ≤ 20000) (hid : 0 ≤ id ∧ id ≤ 4294967295) :
    Calls Try.prog 15 #[.int .i64 kind, .int .u32 id, v, .int .i64 most] w (BodPost 59 (bodL kind id bl most) (bodE kind bl most) w) := by
  have H := Kp.mk h
  obtain ⟨a, n, cap, rfl, hn⟩ := h.slice
  have HN := Kp.mk hn
  have hn2 : n ≤ 20000 := by omega
  have HID := Kp.mk hid
  clear h hl hn hid
  cases hok : okB kind most with
  | false =>
    have HE : Kp (bodE kind bl most = 1 ∧ bodL kind id bl most = []) := ⟨by
      have e : bodE kind bl most = 1 := by unfold bodE; rw [if_pos hok]
      exact ⟨e, by unfold bodL; rw [e]; rfl⟩⟩
    have hc : (wholeB kind = false) ∨ (wholeB kind = true ∧ most < 16) ∨ (wholeB kind = true ∧ ¬ most < 16 ∧ 4096 < most) := by
      simp [okB, wholeB] at hok ⊢; omega
    clear hok
    rcases hc with h1 | ⟨h1, h2⟩ | ⟨h1, h2, h3⟩
    all_goals
      have HW := Kp.mk h1
      clear h1
      go_enter Try.func15, Try.ntmps15
      go_wp2_with fail
      refine (isWhole_any kind _).mono ?_
      rintro r w1 ⟨rfl, rfl⟩
      rw [HW.out]
      go_wp2_with fail
      refine bodyPost_ret (results_tmp2 rfl _ _ _) rfl ?_
      rw [HE.out.1, HE.out.2]
      exact BodPost.none (Below.refl _ _)
  | true =>
    have hk : 1 ≤ kind ∧ kind ≤ 3 ∧ 16 ≤ most ∧ most ≤ 4096 := by simpa [okB] using hok
    have HK := Kp.mk hk
    have HW : Kp (wholeB kind = true) := ⟨by simp [wholeB]; omega⟩
    have h16 : ¬ most < 16 := by omega
    have h40 : ¬ 4096 < most := by omega
    by_cases hs : (n : Int) ≤ most
    · have HE : Kp (bodE kind bl most = 0 ∧ bodL kind id bl most = [(kind, bl)]) := ⟨by
        have e : bodE kind bl most = 0 := by unfold bodE; rw [if_neg (by rw [hok]; simp), if_pos (by rw [← HN.out]; exact hs)]
        exact ⟨e, by unfold bodL; rw [e, if_neg (by simp), if_pos (by rw [← HN.out]; exact hs)]⟩⟩
      clear hok hk
      go_enter Try.func15, Try.ntmps15
      go_wp2_with fail
      refine (isWhole_any kind _).mono ?_
      rintro r w1 ⟨rfl, rfl⟩
      rw [HW.out]
      go_wp2_with fail
      refine (clone_any _ _ bl _ H.out (by rw [← HN.out]; omega)).mono ?_
      rintro r w2 ⟨v', rfl, ho, hb⟩
      have HO := Kp.mk (HoldsB.ofRow H.out.bytes ho)
      have E := Kp.mk hb
      clear ho hb
      obtain ⟨va, vn, vc, rfl, -⟩ := HO.out.slice
      go_wp2_with fail
      refine bodyPost_ret (results_tmp2 rfl _ _ _) rfl ?_
      rw [HE.out.1, HE.out.2]
      exact ⟨_, [⟨kind, .slice va vn vc, bl⟩], rfl, more E.out _, ownsRow_two E.out.size (Blk.new _ _), (fun x hx => by simp at hx; subst hx; exact HO.out.grow (more (Below.refl _ _) _)), rfl⟩
    · have hkw : IntKind.u8.wrap kind = kind := by rw [IntKind.wrap_u8']; omega
      obtain ⟨sz, hsz⟩ : ∃ sz : Nat, sz = (most - 8).toNat := ⟨_, rfl⟩
      have hszi : most - 8 = (sz : Int) := by omega
      have HSZ : Kp (sz = (most - 8).toNat ∧ 8 ≤ sz ∧ sz ≤ 4088) := ⟨hsz, by omega, by omega⟩
      obtain ⟨m, hm⟩ : ∃ m, m = manyN (n + 1) sz := ⟨_, rfl⟩
      have HE : Kp (bodE kind bl most = (if 16384 < n + 1 then 1 else if 32 < m then 8 else 0)) := ⟨by
        unfold bodE; rw [if_neg (by rw [hok]; simp), if_neg (by rw [← HN.out]; exact hs), ← HN.out, ← hsz, ← hm]⟩
      have HL : Kp (bodE kind bl most = 0 → bodL kind id bl most = pieceTs id (kind :: bl) sz m m) := ⟨fun e => by
        unfold bodL; rw [if_neg (by rw [e]; simp), if_neg (by rw [← HN.out]; exact hs), ← HN.out, ← hsz, ← hm]⟩
      have HL0 : Kp (bodE kind bl most ≠ 0 → bodL kind id bl most = []) := ⟨fun e => by unfold bodL; rw [if_pos e]⟩
      have HM := Kp.mk hm
      have HLA : Kp ((kind :: bl).length = n + 1) := ⟨by simp [HN.out]⟩
      have HBA : Kp (Bytes (kind :: bl)) := ⟨fun x hx => by
        rcases List.mem_cons.1 hx with rfl | hx
        · have := HK.out; omega
        · exact H.out.bytes x hx⟩
      obtain ⟨A, hA⟩ : ∃ A, A = w.heap.size := ⟨_, rfl⟩
      have HAe := Kp.mk hA
      obtain ⟨i0, hi0, hz0, hz1, hz2⟩ := info_parts info59'
      clear hok hk hsz hm hA
      go_enter Try.func15, Try.ntmps15
      go_wp2_with fail
      refine (isWhole_any kind _).mono ?_
      rintro r w1 ⟨rfl, rfl⟩
      rw [HW.out]
      have HROW : Kp ((w.alloc (.cells #[.int .u8 kind] 5)).ownsRow A 5 1 (.slice (some ⟨w.heap.size, 0, none⟩) 1 1) 1 (bv [kind])) := ⟨ownsRow_oneB (by rw [HAe.out]; exact Nat.le_refl _) (Blk.new _ _)⟩
      have H2 := Kp.mk (H.out.alloc (.cells #[.int .u8 kind] 5))
      go_wp2_with (at_builtin; refine wpList_append_holds rfl (.tmp 41) (.tmp 42) rfl A _ 1 (bv [kind]) rfl HROW.out w.heap.size _ bl rfl H2.out ?a1 ?a2 ?_)
      case a1 => rw [← HN.out]; omega
      case a2 => rw [HAe.out]; simp
      · intro v' w2 ho hg
        have E2 : Kp (Below A w w2) := ⟨below_row_grown (by rw [HAe.out]; exact more (Below.refl _ _) _) (by rw [HAe.out]; simp) HROW.out hg⟩
        have Z2 : Kp (A ≤ w2.heap.size) := ⟨by have h8 := hg.size; rw [HAe.out]; simp at h8; omega⟩
        have HX : Kp (HoldsB w2 w2.heap.size v' (kind :: bl)) := ⟨HoldsB.ofRow HBA.out (by rw [HLA.out]; have h9 := ho; rw [← HN.out, Nat.add_comm 1 n] at h9; exact h9)⟩
        clear ho hg HROW H2
        obtain ⟨xa, xn, xc, rfl, hxn⟩ := HX.out.slice
        rw [HLA.out] at hxn
        subst hxn
        have hmo : (most : Int) - 8 ≤ 4096 := by omega
        by_cases hb1 : 16384 < n + 1
        · have HE1 : Kp (bodE kind bl most = 1) := ⟨by rw [HE.out, if_pos hb1]⟩
          go_wp2_with fail
          refine (split_bad id sz xa (n + 1) xc _ (by omega) (.inr (.inr hb1))).mono ?_
          rintro r w3 ⟨rfl, rfl⟩
          go_wp2_with fail
          refine bodyPost_ret (results_tmp2 rfl _ _ _) rfl ?_
          rw [HL0.out (by rw [HE1.out]; decide), HE1.out]
          exact BodPost.none (by rw [← HAe.out]; exact E2.out)
        · by_cases hb2 : 32 < m
          · have HE1 : Kp (bodE kind bl most = 8) := ⟨by rw [HE.out, if_neg hb1, if_pos hb2]⟩
            go_wp2_with fail
            refine (split_many id sz (n + 1) xa xc _ (by have := HSZ.out; omega) (by omega) (by rw [← HM.out]; exact hb2)).mono ?_
            rintro r w3 ⟨rfl, rfl⟩
            go_wp2_with fail
            refine bodyPost_ret (results_tmp2 rfl _ _ _) rfl ?_
            rw [HL0.out (by rw [HE1.out]; decide), HE1.out]
            exact BodPost.none (by rw [← HAe.out]; exact E2.out)
          · have HE1 : Kp (bodE kind bl most = 0) := ⟨by rw [HE.out, if_neg hb1, if_neg hb2]⟩
            have hms := manyN_is (n := n + 1) (sz := sz) (by have := HSZ.out; omega)
            rw [← HM.out] at hms
            have HSP := Kp.mk (split_any id sz m _ (kind :: bl) _ HX.out (by have := HSZ.out; omega) (by rw [HLA.out]; omega) (by rw [HLA.out]; exact hms) (by omega) (fun k hk => by rw [HLA.out]; exact manyN_lt (by rw [← HM.out]; exact hk)))
            have HM32 : Kp (m ≤ 32) := ⟨by omega⟩
            clear hms hb1 hb2
            go_wp2_with fail
            refine HSP.out.mono ?_
            rintro r w3 ⟨Q, l, rfl, hQ, hb, hP, hlm, hall⟩
            have E3 : Kp (Below A w w3) := ⟨E2.out.trans (hb.mono Z2.out)⟩
            have Z3 : Kp (A ≤ w3.heap.size) := ⟨Nat.le_trans Z2.out hb.size⟩
            have HP := Kp.mk hP
            have HALL := Kp.mk hall
            have HLM := Kp.mk hlm
            obtain ⟨S, hS⟩ : ∃ S, S = w3.heap.size := ⟨_, rfl⟩
            have HSe := Kp.mk hS
            have hm9 : m ≤ 9223372036854775807 := by have := HM32.out; omega
            clear hQ hb hP hall hlm HX HSP E2 Z2 hS
            go_wp2_with fail
            go_loopw [12, 54] (fun v c wr => ∃ (i : Nat) (L : List BdV), i ≤ m ∧ c = .int .i64 i ∧ Kp (L.length = i) ∧ Kp (wr.ownsRow S 59 2 v i (L.flatMap bdc)) ∧ Kp (∀ x ∈ L, HoldsT wr x.v x.l) ∧ Kp (L.map (fun x => (x.k, x.l)) = pieceTs id (kind :: bl) sz m i) ∧ Kp (Below S w3 wr)) (fun _ c _ => m - (intOf c).toNat)
            case atStart => exact ⟨0, [], by omega, rfl, ⟨rfl⟩, ⟨World.ownsRow_nil _ _ _ _⟩, ⟨fun x hx => by cases hx⟩, ⟨rfl⟩, ⟨Below.refl _ _⟩⟩
            case round =>
              obtain ⟨i, L, hi, rfl, HLL, HO, HT, HMP, F0⟩ := hrel
              by_cases hlt : i < m
              · have t1 : (i : Int) < m := by omega
                have HLT := Kp.mk hlt
                have hPi := PRow.piece (HP.out.keep (by rw [← HSe.out]; exact F0.out)) HALL.out (k := i) (by rw [HLM.out]; exact hlt)
                obtain ⟨pa, pc, hr, hH⟩ := hPi
                have HR := Kp.mk hr
                have HH := Kp.mk hH
                have HPL : Kp ((pieceL (kind :: bl) sz i).length ≤ 4096) := ⟨by have := pieceL_len (bl := kind :: bl) (sz := sz) (k := i); have := HSZ.out; omega⟩
                obtain ⟨pl, hpl⟩ : ∃ pl, pl = (pieceL (kind :: bl) sz i).length := ⟨_, rfl⟩
                rw [← hpl] at HR HH HPL
                clear hr hH hpl hlt
                go_wp2_with (refine wpList_load_mid rfl 103 (.tmp 56) rfl Q (i * 4) rfl [.int .u32 id, .int .i64 i, .int .i64 m, .slice pa pl pc] _ HR.out Try.underlying103 rfl (by kernel_rfl) ?_)
                refine (putN_good ⟨id, i, m, pa, pl, pc⟩ (pieceL (kind :: bl) sz i) _ (HH.out.grow (more (Below.refl _ _) _)) (by unfold rightB; have := HM32.out; have := HPL.out; simp; omega) HID.out).mono ?_
                rintro r w4 ⟨v', rfl, hT, hb⟩
                have F1 : Kp (Below S w3 w4) := ⟨F0.out.trans ((more (Below.refl _ _) _ : Below wr.heap.size wr (wr.alloc _)).mono (by rw [HSe.out]; exact F0.out.size)) |>.trans (hb.mono (by rw [HSe.out]; have := F0.out.size; simp; omega))⟩
                have Z1 : Kp (S ≤ w4.heap.size) := ⟨by rw [HSe.out]; exact F1.out.size⟩
                have HW1 : Kp (Below wr.heap.size wr w4) := ⟨(more (Below.refl _ _) _).trans (hb.mono (by simp))⟩
                have HO1 := Kp.mk (ownsRow_below HO.out HW1.out)
                have HT1 : Kp (∀ x ∈ L, HoldsT w4 x.v x.l) := ⟨fun x hx => (HT.out x hx).grow HW1.out⟩
                have HN1 : Kp (HoldsT w4 v' (pieceT id (kind :: bl) sz m i)) := ⟨hT⟩
                clear hT hb HO HT HW1 F0 HR HH
                obtain ⟨va, vn, vc, rfl, -⟩ := HN1.out.1.slice
                go_wp2_with (at_builtin; refine wpList_append_own _ rfl _ _ 52 rfl S 59 i0 (.agg #[.int .i64 0, .slice none 0 0]) 2 32 Try.underlying52 hi0 hz0 hz1 hz2 rfl (by decide) _ i (L.flatMap bdc) rfl (HO1.out.alloc _) ⟨w4.heap.size, 0, none⟩ 1 1 [.int .i64 4, .slice va vn vc] rfl rfl ?c1 ?c2 ?c3 ?c4 ?c5 ?_)
                case c1 =>
                  intro j u hj
                  match j, hj with
                  | 0, hj => simp at hj; subst hj; simp [Addr.add]
                  | 1, hj => simp at hj; subst hj; simp [Addr.add]
                case c2 =>
                  intro u hu
                  simp at hu
                  rcases hu with rfl | rfl <;> rfl
                case c3 => have := HM32.out; have := HLT.out; unfold maxLen; omega
                case c4 => have := HM32.out; have := HLT.out; omega
                case c5 => have := Z1.out; simp; omega
                · intro v' w5 hown' hgrow _
                  have HA5 : Kp (∀ x ∈ L ++ [(⟨4, .slice va vn vc, pieceT id (kind :: bl) sz m i⟩ : BdV)], HoldsT w5 x.v x.l) := ⟨fun x hx => by
                    have hx4 : HoldsT (w4.alloc (.cells #[.int .i64 4, .slice va vn vc] 59)) x.v x.l := by
                      rcases List.mem_append.1 hx with hx | hx
                      · exact (HT1.out x hx).grow (more (Below.refl _ _) _)
                      · simp at hx; subst hx; exact HN1.out.grow (more (Below.refl _ _) _)
                    exact hx4.grown (HO1.out.alloc _) (by decide) hgrow⟩
                  have F5 : Kp (Below S w3 w5) := ⟨below_row_grown (F1.out.alloc Z1.out _) (by have := Z1.out; simp; omega) (HO1.out.alloc _) hgrow⟩
                  have HO5 : Kp (w5.ownsRow S 59 2 v' (i + 1) ((L ++ [(⟨4, .slice va vn vc, pieceT id (kind :: bl) sz m i⟩ : BdV)]).flatMap bdc)) := ⟨by rw [← bdc_snoc]; exact hown'⟩
                  have HM5 : Kp ((L ++ [(⟨4, .slice va vn vc, pieceT id (kind :: bl) sz m i⟩ : BdV)]).map (fun x => (x.k, x.l)) = pieceTs id (kind :: bl) sz m (i + 1)) := ⟨by rw [List.map_append, HMP.out, pieceTs_snoc]; rfl⟩
                  clear hown' hgrow
                  go_wp2_with fail
                  exact ⟨⟨i + 1, _, by have := HLT.out; omega, by go_num, ⟨by rw [List.length_append, HLL.out]; rfl⟩, HO5, HA5, HM5, F5⟩, by have := HLT.out; simp [intOf]; omega⟩
              · obtain rfl : i = m := by omega
                go_wp2_with fail
                refine bodyPost_ret (results_tmp2 rfl _ _ _) rfl ?_
                rw [HL.out HE1.out, HE1.out]
                exact ⟨_, L, rfl, by rw [← HAe.out]; exact E3.out.trans (F0.out.mono (by rw [HSe.out]; exact Z3.out)), by rw [← HAe.out, HLL.out]; exact ownsRow_base HO.out (by rw [HSe.out]; exact Z3.out), fun x hx => (HT.out x hx).1, HMP.out⟩
end Go.Proofs.Ytioeaknhcfkfcaa
