/-
  grove.Check, the document's Check.
  grove: nil trees; the tree over one leaf.
  grove: the tree over one leaf.
  grove: what the tree over one leaf tells; the law's example.
  A slice of short sums that came in.
-/
import Derived.Test.YtahmioiefmheeaaDoorGf22
import Derived.Deep.MidRow
import Derived.OpenShut
import Derived.Lib.SmallJoins
namespace Go.Proofs.YtahmioiefmheeaaDoor
open Go.RowKit

def checkB (d e h : Int) (r : List Int) (i : Int) (x : List Int) (p : List Int) (n : Nat) : Bool := foldOk i n && decide ((n : Int) = h) && decide (foldS d e x i p n = r)
theorem foldF_val (i : Int) (n : Nat) : foldF i n = 0 ∧ foldOk i n = true ∨ foldF i n = 1 ∧ foldOk i n = false := by
  unfold foldF
  cases foldOk i n <;> simp
set_option maxRecDepth 100000 in
set_option maxHeartbeats 2000000 in
theorem check_any (d e h i : Int) (r x : List Int) (a : Option Addr) (n cap : Nat) (p : List Int) (w : World) (hk : KonIs w) (he : 0 ≤ e ∧ e < 4294967296) (hr : r.length = 16) (hrb : Bytes r) (hx : x.length = 16) (hxb : Bytes x) (hp : HoldsS w (.slice a n cap) n p) :
    Calls Tryd.prog 72 #[.int .i64 d, .int .u32 e, .int .i64 h, dgV r, .int .i64 i, dgV x, .slice a n cap] w fun q w' => q = .returned (.bool (checkB d e h r i x p n)) ∧ Below w.heap.size w w' := by
  have HK := Kp.mk hk
  have HE := Kp.mk he
  have HR := Kp.mk hr
  have HRB := Kp.mk hrb
  have HX := Kp.mk hx
  have HXB := Kp.mk hxb
  have HP := Kp.mk hp
  clear hk he hr hrb hx hxb hp
  obtain ⟨A, hA⟩ : ∃ A, A = w.heap.size := ⟨_, rfl⟩
  have HA := Kp.mk hA
  have HSl := Kp.mk (foldS_len d e x i p n HX.out)
  have HSb := Kp.mk (foldS_bytes d e x i p n HXB.out)
  have HC : Kp (checkB d e h r i x p n = (foldOk i n && decide ((n : Int) = h) && decide (foldS d e x i p n = r))) := ⟨rfl⟩
  go_enter Tryd.func72, Tryd.ntmps72
  go_wp2_with (refine wpList_load_row rfl 33 (.tmp 12) rfl (w.heap.size + 1) rfl 33 _ (0, 0) _ (show Row _ (w.heap.size + 1) 33 .u8 x from Blk.newAt _ (by simp)) Tryd.underlying33 rfl (cells50 HX.out) ?_)
  rw [← hA]
  refine calls_world (fun W => Row W A 33 .u8 r ∧ Row W (A + 1) 33 .u8 x ∧ Below A w W) ⟨Blk.old (Blk.newAt _ hA) _, Blk.newAt _ (by rw [hA]; simp), by rw [hA]; exact more (more (Below.refl _ _) _) _⟩ ?_
  clear hA
  rintro W ⟨g1, g2, g3⟩
  have G1 := Kp.mk g1
  have G3 := Kp.mk g3
  clear g1 g2 g3
  refine (fold_any d e i x a n cap p W (HK.out.keep (by rw [← HA.out]; exact G3.out)) HE.out HX.out HXB.out (HP.out.keep (by rw [← HA.out]; exact G3.out))).mono ?_
  rintro q w1 ⟨rfl, hb⟩
  have F1 := Kp.mk (G1.out.keep hb)
  have F3 : Kp (Below A w w1) := ⟨G3.out.trans (hb.mono (Nat.le_of_lt G1.out.lt))⟩
  clear hb G1 G3
  generalize foldS d e x i p n = s at HSl HSb HC ⊢
  obtain ⟨W1, hW1⟩ : ∃ W1, W1 = (w1.alloc z50).setRow w1.heap.size (kv .u8 s).toArray := ⟨_, rfl⟩
  have X1 : Kp (Row W1 w1.heap.size 33 .u8 s) := ⟨by rw [hW1]; exact Row.setRow (k := .u8) (l := fill 16 []) (Blk.new w1 z50) _⟩
  have D1 : Kp (Row W1 A 33 .u8 r) := ⟨by rw [hW1]; exact Row.otherRow (Row.alloc F1.out _) (by have := F1.out.lt; omega) _⟩
  have D3 : Kp (Below A w W1) := ⟨by rw [hW1]; exact Below.row (F3.out.alloc (by have := F1.out.lt; omega) _) (by have := F1.out.lt; omega) _⟩
  clear F1 F3
  obtain ⟨f, hf⟩ : ∃ f, f = foldF i n := ⟨_, rfl⟩
  have hv := foldF_val i n
  rw [← hf] at hv
  rw [← hf]
  clear hf
  rcases hv with ⟨rfl, hok⟩ | ⟨rfl, hok⟩
  · by_cases hn : (n : Int) = h
    · have HB : Kp (checkB d e h r i x p n = decide (s = r)) := ⟨by rw [HC.out, hok]; simp [hn]⟩
      have t1 : ((n : Int) == h) = true := by simpa using hn
      clear hn hok HC
      go_wp2_with first
        | (refine wpList_store_row rfl 33 (.tmp 15) (.tmp 24) rfl w1.heap.size (kv .u8 s).toArray rfl rfl 33 _ (Blk.new w1 z50) (cells50 HSl.out) (size50 HSl.out) (kv_all _ _) ?_; refine wpl_world (· = W1) hW1.symm ?_; clear hW1; intro W0 e0; rw [e0]; clear e0)
        | (refine wpList_load_rowG rfl 33 (.tmp 15) rfl w1.heap.size rfl 33 _ (0, 0) _ X1.out Tryd.underlying33 rfl (cells50 HSl.out) ?_)
        | (refine wpList_load_rowG rfl 33 (.tmp 10) rfl A rfl 33 _ (0, 0) _ D1.out Tryd.underlying33 rfl (cells50 HR.out) ?_)
      clear t1
      refine (same_any s r W1 HSl.out HSb.out HR.out HRB.out).mono ?_
      rintro q w2 ⟨rfl, hb⟩
      have F9 : Kp (Below A w w2) := ⟨D3.out.trans (hb.mono (Nat.le_of_lt D1.out.lt))⟩
      clear hb
      generalize decide (s = r) = bb at HB ⊢
      cases bb <;> (go_wp2_with fail; go_ret; exact ⟨retb HB.out.symm, by rw [← HA.out]; exact F9.out⟩)
    · have HB : Kp (checkB d e h r i x p n = false) := ⟨by rw [HC.out, hok]; simp [hn]⟩
      have t1 : ((n : Int) == h) = false := by simpa using hn
      clear hn hok HC
      go_wp2_with (refine wpList_store_row rfl 33 (.tmp 15) (.tmp 24) rfl w1.heap.size (kv .u8 s).toArray rfl rfl 33 _ (Blk.new w1 z50) (cells50 HSl.out) (size50 HSl.out) (kv_all _ _) ?_; refine wpl_world (· = W1) hW1.symm ?_; clear hW1; intro W0 e0; rw [e0]; clear e0)
      go_ret
      exact ⟨retb HB.out.symm, by rw [← HA.out]; exact D3.out⟩
  · have HB : Kp (checkB d e h r i x p n = false) := ⟨by rw [HC.out, hok]; rfl⟩
    clear hok HC
    go_wp2_with (refine wpList_store_row rfl 33 (.tmp 15) (.tmp 24) rfl w1.heap.size (kv .u8 s).toArray rfl rfl 33 _ (Blk.new w1 z50) (cells50 HSl.out) (size50 HSl.out) (kv_all _ _) ?_; refine wpl_world (· = W1) hW1.symm ?_; clear hW1; intro W0 e0; rw [e0]; clear e0)
    go_ret
    exact ⟨retb HB.out.symm, by rw [← HA.out]; exact D3.out⟩
set_option maxRecDepth 100000 in
set_option maxHeartbeats 2000000 in
theorem rcheck_any (d e h i : Int) (r x : List Int) (a : Option Addr) (n cap : Nat) (p : List Int) (w : World) (he : 0 ≤ e ∧ e < 4294967296) (hr : r.length = 16) (hrb : Bytes r) (hx : x.length = 16) (hxb : Bytes x) (hp : HoldsS w (.slice a n cap) n p) :
    Calls Tryd.prog 73 #[.int .i64 d, .int .u32 e, .int .i64 h, dgV r, .int .i64 i, dgV x, .slice a n cap] w fun q w' => q = .returned (.bool (checkB d e h r i x p n)) ∧ Below w.heap.size w w' := by
  have HE := Kp.mk he
  have HR := Kp.mk hr
  have HRB := Kp.mk hrb
  have HX := Kp.mk hx
  have HXB := Kp.mk hxb
  have HP := Kp.mk hp
  clear he hr hrb hx hxb hp
  obtain ⟨A, hA⟩ : ∃ A, A = w.heap.size := ⟨_, rfl⟩
  have HA := Kp.mk hA
  have HSl := Kp.mk (foldS_len d e x i p n HX.out)
  have HSb := Kp.mk (foldS_bytes d e x i p n HXB.out)
  have HC : Kp (checkB d e h r i x p n = (foldOk i n && decide ((n : Int) = h) && decide (foldS d e x i p n = r))) := ⟨rfl⟩
  by_cases hn : (n : Int) = h
  · have t1 : ((n : Int) != h) = false := by simp [hn]
    have HN := Kp.mk hn
    clear hn
    go_enter Tryd.func73, Tryd.ntmps73
    go_wp2_with (refine wpList_load_row rfl 32 (.tmp 12) rfl (w.heap.size + 1) rfl 32 _ (0, 0) _ (show Row _ (w.heap.size + 1) 32 .u8 x from Blk.newAt _ (by simp)) Tryd.underlying32 rfl (cells49 HX.out) ?_)
    rw [← hA]
    refine calls_world (fun W => Row W A 32 .u8 r ∧ Row W (A + 1) 32 .u8 x ∧ Below A w W) ⟨Blk.old (Blk.newAt _ hA) _, Blk.newAt _ (by rw [hA]; simp), by rw [hA]; exact more (more (Below.refl _ _) _) _⟩ ?_
    clear hA t1
    rintro W ⟨g1, g2, g3⟩
    have G1 := Kp.mk g1
    have G3 := Kp.mk g3
    clear g1 g2 g3
    refine (rfold_any d e i x a n cap p W HE.out HX.out HXB.out (HP.out.keep (by rw [← HA.out]; exact G3.out))).mono ?_
    rintro q w1 ⟨v, rfl, -, -, hb⟩
    have F1 := Kp.mk (G1.out.keep hb)
    have F3 : Kp (Below A w w1) := ⟨G3.out.trans (hb.mono (Nat.le_of_lt G1.out.lt))⟩
    clear hb G1 G3
    generalize foldS d e x i p n = s at HSl HSb HC ⊢
    obtain ⟨W1, hW1⟩ : ∃ W1, W1 = (w1.alloc z49).setRow w1.heap.size (kv .u8 s).toArray := ⟨_, rfl⟩
    have X1 : Kp (Row W1 w1.heap.size 32 .u8 s) := ⟨by rw [hW1]; exact Row.setRow (k := .u8) (l := fill 16 []) (Blk.new w1 z49) _⟩
    have D1 : Kp (Row W1 A 32 .u8 r) := ⟨by rw [hW1]; exact Row.otherRow (Row.alloc F1.out _) (by have := F1.out.lt; omega) _⟩
    have D3 : Kp (Below A w W1) := ⟨by rw [hW1]; exact Below.row (F3.out.alloc (by have := F1.out.lt; omega) _) (by have := F1.out.lt; omega) _⟩
    clear F1 F3
    obtain ⟨f, hf⟩ : ∃ f, f = foldF i n := ⟨_, rfl⟩
    have hv := foldF_val i n
    rw [← hf] at hv
    rw [← hf]
    clear hf
    rcases hv with ⟨rfl, hok⟩ | ⟨rfl, hok⟩
    · have HB : Kp (checkB d e h r i x p n = decide (s = r)) := ⟨by rw [HC.out, hok]; simp [HN.out]⟩
      have hq := eq32 HSb.out HRB.out HSl.out HR.out
      have hg := eqg32
      generalize decide (s = r) = bb at HB hq
      clear hok HC
      cases bb <;> (
        go_wp2_with first
          | (refine wpList_store_row rfl 32 (.tmp 15) (.tmp 29) rfl w1.heap.size (kv .u8 s).toArray rfl rfl 32 _ (Blk.new w1 z49) (cells49 HSl.out) (size50 HSl.out) (kv_all _ _) ?_; refine wpl_world (· = W1) hW1.symm ?_; clear hW1; intro W0 e0; rw [e0]; clear e0)
          | (refine wpList_load_rowG rfl 32 (.tmp 15) rfl w1.heap.size rfl 32 _ (0, 0) _ X1.out Tryd.underlying32 rfl (cells49 HSl.out) ?_)
          | (refine wpList_load_rowG rfl 32 (.tmp 10) rfl A rfl 32 _ (0, 0) _ D1.out Tryd.underlying32 rfl (cells49 HR.out) ?_)
        go_ret
        exact ⟨retb HB.out.symm, by rw [← HA.out]; exact D3.out⟩)
    · have HB : Kp (checkB d e h r i x p n = false) := ⟨by rw [HC.out, hok]; rfl⟩
      clear hok HC
      go_wp2_with (refine wpList_store_row rfl 32 (.tmp 15) (.tmp 29) rfl w1.heap.size (kv .u8 s).toArray rfl rfl 32 _ (Blk.new w1 z49) (cells49 HSl.out) (size50 HSl.out) (kv_all _ _) ?_; refine wpl_world (· = W1) hW1.symm ?_; clear hW1; intro W0 e0; rw [e0]; clear e0)
      go_ret
      exact ⟨retb HB.out.symm, by rw [← HA.out]; exact D3.out⟩
  · have t1 : ((n : Int) != h) = true := by simpa using hn
    have HB : Kp (checkB d e h r i x p n = false) := ⟨by rw [HC.out]; simp [hn]⟩
    clear hn HC
    go_enter Tryd.func73, Tryd.ntmps73
    go_wp2_with fail
    go_ret
    exact ⟨retb HB.out.symm, more (more (Below.refl _ _) _) _⟩
end Go.Proofs.YtahmioiefmheeaaDoor

namespace Go.Proofs.YtahmioiefmheeaaDoor
open Go.RowKit

set_option maxRecDepth 100000 in
set_option maxHeartbeats 1000000 in
theorem height_any (m : Int) (w : World) : Calls Tryd.prog 60 #[.int .i64 m] w fun r w' => ∃ h, r = .returned (.int .i64 h) ∧ w' = w ∧ ((∃ i : Nat, i < 7 ∧ m = 2 ^ i ∧ h = i) ∨ ((∀ i : Nat, i < 7 → m ≠ 2 ^ i) ∧ h = -1)) := by
  go_enter Tryd.func60, Tryd.ntmps60
  go_wp2_with fail
  go_loopw [4] (fun c wr => ∃ i : Nat, i ≤ 7 ∧ c = .int .i64 i ∧ wr = w ∧ Kp (∀ j : Nat, j < i → m ≠ 2 ^ j)) (fun c _ => 7 - (intOf c).toNat)
  case atStart => exact ⟨0, by omega, rfl, rfl, ⟨fun j hj => by omega⟩⟩
  case round =>
    obtain ⟨i, hi, rfl, rfl, HN⟩ := hrel
    by_cases hlt : i < 7
    · obtain ⟨p, hp⟩ : ∃ p : Int, p = 2 ^ i := ⟨_, rfl⟩
      have hw : wrap64 ((2 : Int) ^ i) = p := by
        rcases (show i = 0 ∨ i = 1 ∨ i = 2 ∨ i = 3 ∨ i = 4 ∨ i = 5 ∨ i = 6 by omega) with rfl | rfl | rfl | rfl | rfl | rfl | rfl <;> (rw [hp]; unfold wrap64; decide)
      have HP := Kp.mk hp
      clear hp
      by_cases hm : m = p
      · have HM := Kp.mk hm
        have t1 : (m == wrap64 ((2 : Int) ^ i)) = true := by rw [hw, beq_iff_eq]; exact hm
        clear hm hw
        go_wp2_with fail
        go_ret
        exact ⟨_, rfl, rfl, .inl ⟨i, hlt, by rw [HM.out, HP.out], rfl⟩⟩
      · have HM := Kp.mk hm
        have t1 : (m == wrap64 ((2 : Int) ^ i)) = false := by rw [hw, beq_eq_false_iff_ne]; exact hm
        clear hm hw
        go_wp2_with fail
        refine ⟨⟨i + 1, by omega, by go_num, trivial, ⟨fun j hj => ?_⟩⟩, by simp [intOf]; omega⟩
        rcases Nat.lt_or_ge j i with h | h
        · exact HN.out j h
        · have : j = i := by omega
          subst this
          rw [← HP.out]
          exact HM.out
    · have hge : 7 ≤ (i : Int) := by omega
      have HI : Kp (i = 7) := ⟨by omega⟩
      clear hlt hi
      go_wp2_with fail
      go_ret
      exact ⟨_, rfl, rfl, .inr ⟨fun j hj => HN.out j (by rw [HI.out]; exact hj), rfl⟩⟩
set_option maxRecDepth 100000 in
theorem has_nil (i : Int) (w : World) : Calls Tryd.prog 103 #[.pointer none, .int .i64 i] w fun r w' => r = .returned (.bool false) ∧ w' = w := by
  go_enter Tryd.func103, Tryd.ntmps103
  go_wp2_with fail
  go_ret
  exact ⟨rfl, rfl⟩
theorem info33 : (Tryd.prog.info? 33).map (·.size) = some 16 := by kernel_rfl
abbrev zeroS : List Int := List.replicate 16 0
set_option maxRecDepth 100000 in
set_option maxHeartbeats 1000000 in
theorem root_nil (w : World) : Calls Tryd.prog 63 #[.pointer none] w fun r w' => r = .returned (dgV zeroS) ∧ Below w.heap.size w w' := by
  go_enter Tryd.func63, Tryd.ntmps63
  go_wp2_with fail
  refine calls_world (fun W => Row W w.heap.size 33 .u8 zeroS ∧ Below w.heap.size w W) ⟨Blk.newAt (w := w) z50 rfl, more (Below.refl _ _) z50⟩ ?_
  rintro w1 ⟨h1, h2⟩
  have HR := Kp.mk h1
  have HB := Kp.mk h2
  clear h1 h2
  refine (has_nil 0 w1).mono ?_
  rintro r w2 ⟨rfl, rfl⟩
  have HF := Kp.mk (HR.out.setRow zeroS)
  have HBf := Kp.mk (Below.row HB.out (g := w.heap.size) (Nat.le_refl _) (kv .u8 zeroS).toArray)
  go_wp2_with (refine wpList_store_row rfl 33 (.tmp 2) (.tmp 6) rfl w.heap.size (kv .u8 zeroS).toArray rfl rfl 33 _ HR.out (cells50 (l := zeroS) rfl) rfl (kv_all _ _) ?_)
  refine bodyPost_ret (v := dgV zeroS) ?_ rfl ⟨rfl, HBf.out⟩
  exact results_cell_row rfl _ _ w.heap.size 33 _ (0, 0) _ rfl HF.out Tryd.underlying33 rfl (cells50 (l := zeroS) rfl)
set_option maxRecDepth 100000 in
theorem path_nil (i : Int) (w : World) : Calls Tryd.prog 66 #[.pointer none, .int .i64 i] w fun r w' => r = .returned (.tuple #[.slice none 0 0, .int .i64 2]) ∧ w' = w := by
  go_enter Tryd.func66, Tryd.ntmps66
  go_wp2_with fail
  go_ret2
  exact ⟨rfl, rfl⟩
end Go.Proofs.YtahmioiefmheeaaDoor

namespace Go.Proofs.YtahmioiefmheeaaDoor
open Go.RowKit

theorem info33' : (Tryd.prog.info? 33).map (fun i => (i.zero, i.size, i.bytes)) = some (some (.agg (kv .u8 (fill 16 [])).toArray), 16, 16) := by kernel_rfl
set_option maxRecDepth 100000 in
set_option maxHeartbeats 1000000 in
theorem clone_one (B : Nat) (s : List Int) (w : World) (h : Row w B 33 .u8 s) (hs : s.length = 16) :
    Calls Tryd.prog 101 #[.slice (some ⟨B, 0, none⟩) 1 1] w fun r w' => ∃ L c, r = .returned (.slice (some ⟨L, 0, none⟩) 1 c) ∧ w'.ownsRow w.heap.size 33 16 (.slice (some ⟨L, 0, none⟩) 1 c) 1 (kv .u8 s) ∧ Below w.heap.size w w' := by
  obtain ⟨i0, hi, hz0, hz1, hz2⟩ := info_parts info33'
  have HR := Kp.mk h
  have HS := Kp.mk hs
  have hcell : ∀ j u, (kv .u8 s)[j]? = some u → (w.alloc (.cells #[] 33)).cell? ((⟨B, 0, none⟩ : Addr).add j) = some u := by
    intro j u hu
    have h2 := Blk.cell (h.alloc (.cells #[] 33)) j
    rw [List.getElem?_toArray, hu] at h2
    have e : (⟨B, 0, none⟩ : Addr).add j = ⟨B, j, none⟩ := by unfold Addr.add; split <;> simp_all
    rw [e]
    exact h2
  have HC := Kp.mk hcell
  clear hcell h hs
  have hql : ∀ w, (binOp .eql 66 (.slice (some ⟨B, 0, none⟩) 1 1) (.slice none 0 0)).run Tryd.prog w = .ok (.bool false) w := fun w => rfl
  go_enter Tryd.func101, Tryd.ntmps101
  go_wp2_with (at_builtin; refine wpList_append_own _ rfl _ _ 66 rfl w.heap.size 33 i0 _ 16 16 Tryd.underlying66 hi hz0 hz1 hz2 rfl (by decide) _ 0 [] rfl (World.ownsRow_made w #[] 0 (Nat.le_refl _) (by unfold maxLen; omega) rfl) ⟨B, 0, none⟩ 1 1 (kv .u8 s) rfl ?c0 HC.out (kv_one _) ?c1 ?c2 ?c3 ?_)
  case c0 => rw [List.length_map, HS.out]
  case c1 => unfold maxLen; omega
  case c2 => omega
  case c3 => simp
  intro v' w' ho hg hn
  have hbel : Below w.heap.size w w' := below_row_grown (more (Below.refl _ _) (.cells #[] 33)) (by simp) (World.ownsRow_made (e := 33) (size := 16) w #[] 0 (Nat.le_refl _) (by unfold maxLen; omega) rfl) hg
  rcases ho.2 with ⟨_, h0⟩ | ⟨L, c, cur, rfl, _⟩
  · omega
  have HO := Kp.mk ho
  have HB := Kp.mk hbel
  clear ho hg hn hbel
  go_wp2_with fail
  go_ret
  exact ⟨L, c, rfl, HO.out, HB.out⟩
/-- The tree over one leaf. -/
structure One (w : World) (G R L c : Nat) (s : List Int) : Prop where
  g : Blk w G (.cells #[.slice (some ⟨R, 0, none⟩) 1 1] 141)
  r : Blk w R (.cells #[.slice (some ⟨L, 0, none⟩) 1 c] 66)
  l : w.rangeAt L 0 (kv .u8 s)
  lt : L < w.heap.size
theorem One.keep {w w' : World} {G R L c : Nat} {s : List Int} (h : One w G R L c s) (hb : Below w.heap.size w w') : One w' G R L c s :=
  ⟨h.g.keep hb, h.r.keep hb, fun j v hj => (hb.cell (p := ⟨L, 0 + j, none⟩) h.lt).trans (h.l j v hj), Nat.lt_of_lt_of_le h.lt hb.size⟩
set_option maxRecDepth 100000 in
set_option maxHeartbeats 1000000 in
theorem new_one (d e : Int) (B : Nat) (s : List Int) (w : World) (h : Row w B 33 .u8 s) (hs : s.length = 16) :
    Calls Tryd.prog 59 #[.int .i64 d, .int .u32 e, .slice (some ⟨B, 0, none⟩) 1 1] w fun r w' => ∃ G R L c, r = .returned (.tuple #[.pointer (some ⟨G, 0, none⟩), .int .i64 0]) ∧ One w' G R L c s ∧ Below w.heap.size w w' := by
  have HR := Kp.mk h
  have HS := Kp.mk hs
  clear h hs
  go_enter Tryd.func59, Tryd.ntmps59
  go_wp2_with fail
  refine (height_any 1 w).mono ?_
  rintro r w1 ⟨hh, rfl, rfl, h2⟩
  have h0 : hh = 0 := by
    rcases h2 with ⟨i, hi, e1, e2⟩ | ⟨hn, _⟩
    · match i, hi with
      | 0, _ => simpa using e2
      | i + 1, _ =>
        exfalso
        have : (2 : Int) ^ (i + 1) = 2 * 2 ^ i := by rw [Int.pow_succ, Int.mul_comm]
        omega
    · exact absurd rfl (hn 0 (by omega))
  subst h0
  clear h2
  go_wp2_with fail
  refine (clone_one B s w1 HR.out HS.out).mono ?_
  rintro r w2 ⟨L, c, rfl, ho, hb⟩
  have HL : Kp (w2.rangeAt L 0 (kv .u8 s) ∧ L < w2.heap.size) := ⟨by
    rcases ho.2 with ⟨e, _⟩ | ⟨g, cap, cur, e, _, hg, _, _, _, ht⟩
    · simp at e
    · simp only [Value.slice.injEq, Option.some.injEq, Addr.mk.injEq, and_true] at e
      obtain ⟨rfl, _⟩ := e
      refine ⟨fun j v hj => ?_, (Array.getElem?_eq_some_iff.1 hg).1⟩
      rw [cell_of_row w2 L (0 + j) cur 33 (0, 0) hg, Nat.zero_add, ← Array.getElem?_toList]
      rw [← ht, List.getElem?_take] at hj
      split at hj
      · exact hj
      · cases hj⟩
  have HB := Kp.mk hb
  clear ho hb
  go_wp2_with fail
  refine wp_world (fun W => One W (w2.heap.size + 1) w2.heap.size L c s ∧ Below w1.heap.size w1 W) ⟨⟨Blk.newAt _ (by simp), Blk.old (Blk.newAt _ rfl) _, ?_, by have := HL.out.2; simp; omega⟩, more (more HB.out _) _⟩ ?_
  · intro j v hj
    have h1 := HL.out.1 j v hj
    have hb2 : Below w2.heap.size w2 ((w2.alloc (.cells #[.slice (some ⟨L, 0, none⟩) 1 c] 66)).alloc (.cells #[.slice (some ⟨w2.heap.size, 0, none⟩) 1 1] 141)) := more (more (Below.refl _ _) _) _
    exact (hb2.cell (p := ⟨L, 0 + j, none⟩) HL.out.2).trans h1
  rintro W ⟨h1, h2⟩
  have HO := Kp.mk h1
  have HW := Kp.mk h2
  clear h1 h2
  obtain ⟨G, hG⟩ : ∃ G, G = w2.heap.size + 1 := ⟨_, rfl⟩
  obtain ⟨R, hR⟩ : ∃ R, R = w2.heap.size := ⟨_, rfl⟩
  rw [← hG, ← hR] at HO
  rw [← hG]
  clear hG hR HB HL
  go_loopw [22] (fun q wr => q = .int .i64 0 ∧ Kp (One wr G R L c s) ∧ Kp (Below w1.heap.size w1 wr)) (fun _ _ => 0)
  case atStart => exact ⟨rfl, HO, HW⟩
  case round =>
    obtain ⟨rfl, F1, F2⟩ := hrel
    go_wp2_with fail
    go_ret2
    exact ⟨G, R, L, c, rfl, F1.out, F2.out⟩
end Go.Proofs.YtahmioiefmheeaaDoor

namespace Go.Proofs.YtahmioiefmheeaaDoor
open Go.RowKit

theorem One.cells {w : World} {G R L c : Nat} {s : List Int} (h : One w G R L c s) : w.cell? ⟨G, 0, none⟩ = some (.slice (some ⟨R, 0, none⟩) 1 1) ∧ w.cell? ⟨R, 0, none⟩ = some (.slice (some ⟨L, 0, none⟩) 1 c) :=
  ⟨h.g.cell 0, h.r.cell 0⟩
set_option maxRecDepth 100000 in
set_option maxHeartbeats 1000000 in
theorem has_one (G R L c : Nat) (s : List Int) (w : World) (h : One w G R L c s) : Calls Tryd.prog 103 #[.pointer (some ⟨G, 0, none⟩), .int .i64 0] w fun r w' => r = .returned (.bool true) ∧ w' = w := by
  obtain ⟨c1, c2⟩ := h.cells
  clear h
  go_enter Tryd.func103, Tryd.ntmps103
  go_wp2_with fail
  go_ret
  exact ⟨rfl, rfl⟩
set_option maxRecDepth 100000 in
set_option maxHeartbeats 1000000 in
theorem path_one (G R L c : Nat) (s : List Int) (w : World) (h : One w G R L c s) : Calls Tryd.prog 66 #[.pointer (some ⟨G, 0, none⟩), .int .i64 0] w fun r w' => r = .returned (.tuple #[.slice none 0 0, .int .i64 0]) ∧ Below w.heap.size w w' := by
  have HO := Kp.mk h
  clear h
  go_enter Tryd.func66, Tryd.ntmps66
  go_wp2_with fail
  refine (has_one G R L c s w HO.out).mono ?_
  rintro r w1 ⟨rfl, rfl⟩
  obtain ⟨c1, c2⟩ := HO.out.cells
  go_wp2_with fail
  go_quiet (fail)
  have HB : Kp (Below w1.heap.size w1 (w1.drewN nq)) := ⟨below_drewN (Below.refl _ _) nq⟩
  clear c1 c2
  generalize w1.drewN nq = w2 at *
  go_wp2_with fail
  go_loopw [1, 6, 27] (fun _ p q wr => q = .int .i64 0 ∧ p = .slice none 0 0 ∧ Kp (Below w1.heap.size w1 wr)) (fun _ _ _ _ => 0)
  case atStart => exact ⟨rfl, rfl, HB⟩
  case round =>
    obtain ⟨rfl, rfl, F2⟩ := hrel
    go_wp2_with fail
    go_ret2
    exact ⟨rfl, F2.out⟩
theorem exec_load_mid33 {o : Oper} {a : Act} {w : World} {x : Operand} {b : Nat} {s : List Int} (ho : o.op = .load 33 x) (hx : a.eval x = .pointer (some ⟨b, 0, none⟩)) (hc : w.rangeAt b 0 (kv .u8 s)) (hs : s.length = 16) :
    (execOp a.eval o).run Tryd.prog w = .ok (.value (dgV s)) w := by
  unfold execOp
  simp only [ho, hx, Instr.loadAt, Instr.sureAddr, Sem.run_bind, Sem.run_pure, Result.andThen_ok, run_loadVar_mid w b 0 33 (kv .u8 s) _ hc Tryd.underlying33 rfl (by rw [info33, List.length_map, hs])]
set_option maxRecDepth 100000 in
set_option maxHeartbeats 1000000 in
theorem root_one (G R L c : Nat) (s : List Int) (w : World) (h : One w G R L c s) (hs : s.length = 16) : Calls Tryd.prog 63 #[.pointer (some ⟨G, 0, none⟩)] w fun r w' => r = .returned (dgV s) ∧ Below w.heap.size w w' := by
  have HO := Kp.mk h
  have HS := Kp.mk hs
  clear h hs
  go_enter Tryd.func63, Tryd.ntmps63
  go_wp2_with fail
  refine calls_world (fun W => Row W w.heap.size 33 .u8 (fill 16 []) ∧ One W G R L c s ∧ Below w.heap.size w W) ⟨Blk.newAt (w := w) z50 rfl, HO.out.keep (more (Below.refl _ _) z50), more (Below.refl _ _) z50⟩ ?_
  rintro w1 ⟨h1, h2, h3⟩
  refine (has_one G R L c s w1 h2).mono ?_
  rintro r w2 ⟨rfl, rfl⟩
  have G1 := Kp.mk h1
  have G2 := Kp.mk h2
  have G3 := Kp.mk h3
  clear h1 h2 h3
  go_wp2_with fail
  refine wp_region_pred (fun w' => Row w' w.heap.size 33 .u8 (fill 16 []) ∧ One w' G R L c s ∧ Below w.heap.size w w') [0, 1, 2, 3, 4, 5, 6, 7, 8, 9, 10, 11, 12, 13] [14]
    (fun i _ v => match i with
      | 0 => v = .pointer (some ⟨G, 0, none⟩)
      | 1 => v = .pointer (some ⟨G, 0, none⟩)
      | 2 => v = .pointer (some ⟨G, 0, none⟩)
      | 3 => v = .slice (some ⟨R, 0, none⟩) 1 1
      | 4 => v = .pointer (some ⟨G, 0, none⟩)
      | 5 => v = .pointer (some ⟨G, 0, none⟩)
      | 6 => v = .pointer (some ⟨G, 0, none⟩)
      | 7 => v = .slice (some ⟨R, 0, none⟩) 1 1
      | 8 => v = .int .i64 1
      | 9 => v = .int .i64 0
      | 10 => v = .pointer (some ⟨R, 0, none⟩)
      | 11 => v = .slice (some ⟨L, 0, none⟩) 1 c
      | 12 => v = .pointer (some ⟨L, 0, none⟩)
      | _ => v = dgV s)
    [[], [(0, some 7)], [(1, some 8)], [(2, some 9)], [], [(4, some 11)], [(5, some 12)], [(6, some 13)], [(7, some 14)], [(8, some 15)], [(3, some 10), (9, some 16)], [(10, some 17)], [(11, some 18)], [(12, some 19)]]
    [(0, some 7), (1, some 8), (2, some 9), (3, some 10), (4, some 11), (5, some 12), (6, some 13), (7, some 14), (8, some 15), (9, some 16), (10, some 17), (11, some 18), (12, some 19), (13, some 20)]
    (by kernel_rfl) (by kernel_rfl) (by kernel_rfl) (by kernel_rfl) (by kernel_rfl) (by kernel_rfl) (by decide) (by decide) (fun w1 w2 h hb => ⟨h.1.keep hb, h.2.1.keep hb, h.2.2.trans (hb.mono (Nat.le_of_lt h.1.lt))⟩) (fun _ _ _ _ h _ => h) ⟨G1.out.drew, G2.out.keep ⟨rfl, rfl, rfl, Nat.le_refl _, fun _ _ => rfl⟩, G3.out.drew⟩ ?_ ?_
  · refine ⟨fun γ wx hS h => ⟨_, rfl, Or.inl ⟨rfl, ?_⟩⟩, fun γ wx hS h => ⟨_, rfl, Or.inl ⟨rfl, ?_⟩⟩, fun γ wx hS h => ⟨_, rfl, Or.inl ⟨rfl, ?_⟩⟩, fun γ wx hS h => ⟨_, rfl, Or.inl ⟨rfl, ?_⟩⟩, fun γ wx hS h => ⟨_, rfl, Or.inl ⟨rfl, ?_⟩⟩, fun γ wx hS h => ⟨_, rfl, Or.inl ⟨rfl, ?_⟩⟩, fun γ wx hS h => ⟨_, rfl, Or.inl ⟨rfl, ?_⟩⟩, fun γ wx hS h => ⟨_, rfl, Or.inl ⟨rfl, ?_⟩⟩, fun γ wx hS h => ⟨_, rfl, Or.inl ⟨rfl, ?_⟩⟩, fun γ wx hS h => ⟨_, rfl, Or.inl ⟨rfl, ?_⟩⟩, fun γ wx hS h => ⟨_, rfl, Or.inl ⟨rfl, ?_⟩⟩, fun γ wx hS h => ⟨_, rfl, Or.inl ⟨rfl, ?_⟩⟩, fun γ wx hS h => ⟨_, rfl, Or.inl ⟨rfl, ?_⟩⟩, fun γ wx hS h => ⟨_, rfl, Or.inl ⟨rfl, ?_⟩⟩, trivial⟩
    · exact predRun_value (v := .pointer (some ⟨G, 0, none⟩)) (by simp only [putE]; first | rfl | (go_simp; done) | (go_simp; rfl)) rfl
    · have e0 : γ 0 = .pointer (some ⟨G, 0, none⟩) := h
      exact predRun_value (v := .pointer (some ⟨G, 0, none⟩)) (by simp only [putE, e0]; first | rfl | (go_simp; done) | (go_simp; rfl)) rfl
    · have e1 : γ 1 = .pointer (some ⟨G, 0, none⟩) := h
      exact predRun_value (v := .pointer (some ⟨G, 0, none⟩)) (by simp only [putE, e1]; first | rfl | (go_simp; done) | (go_simp; rfl)) rfl
    · have e2 : γ 2 = .pointer (some ⟨G, 0, none⟩) := h
      obtain ⟨c1, c2⟩ := hS.2.1.cells
      exact predRun_value (v := .slice (some ⟨R, 0, none⟩) 1 1) (by simp only [putE, e2]; first | rfl | (go_simp; done) | (go_simp; rfl)) rfl
    · exact predRun_value (v := .pointer (some ⟨G, 0, none⟩)) (by simp only [putE]; first | rfl | (go_simp; done) | (go_simp; rfl)) rfl
    · have e4 : γ 4 = .pointer (some ⟨G, 0, none⟩) := h
      exact predRun_value (v := .pointer (some ⟨G, 0, none⟩)) (by simp only [putE, e4]; first | rfl | (go_simp; done) | (go_simp; rfl)) rfl
    · have e5 : γ 5 = .pointer (some ⟨G, 0, none⟩) := h
      exact predRun_value (v := .pointer (some ⟨G, 0, none⟩)) (by simp only [putE, e5]; first | rfl | (go_simp; done) | (go_simp; rfl)) rfl
    · have e6 : γ 6 = .pointer (some ⟨G, 0, none⟩) := h
      obtain ⟨c1, c2⟩ := hS.2.1.cells
      exact predRun_value (v := .slice (some ⟨R, 0, none⟩) 1 1) (by simp only [putE, e6]; first | rfl | (go_simp; done) | (go_simp; rfl)) rfl
    · have e7 : γ 7 = .slice (some ⟨R, 0, none⟩) 1 1 := h
      exact predRun_value (v := .int .i64 1) (by simp only [putE, e7]; first | rfl | (go_simp; done) | (go_simp; rfl)) rfl
    · have e8 : γ 8 = .int .i64 1 := h
      exact predRun_value (v := .int .i64 0) (by simp only [putE, e8]; first | rfl | (go_simp; done) | (go_simp; rfl)) rfl
    · obtain ⟨h3, h9⟩ := h
      have e3 : γ 3 = .slice (some ⟨R, 0, none⟩) 1 1 := h3
      have e9 : γ 9 = .int .i64 0 := h9
      exact predRun_value (v := .pointer (some ⟨R, 0, none⟩)) (by simp only [putE, e3, e9]; first | rfl | (go_simp; done) | (go_simp; rfl)) rfl
    · have e10 : γ 10 = .pointer (some ⟨R, 0, none⟩) := h
      obtain ⟨c1, c2⟩ := hS.2.1.cells
      exact predRun_value (v := .slice (some ⟨L, 0, none⟩) 1 c) (by simp only [putE, e10]; first | rfl | (go_simp; done) | (go_simp; rfl)) rfl
    · have e11 : γ 11 = .slice (some ⟨L, 0, none⟩) 1 c := h
      exact predRun_value (v := .pointer (some ⟨L, 0, none⟩)) (by simp only [putE, e11]; first | rfl | (go_simp; done) | (go_simp; rfl)) rfl
    · have e12 : γ 12 = .pointer (some ⟨L, 0, none⟩) := h
      exact predRun_value (exec_load_mid33 (x := .tmp 19) rfl (by exact e12) hS.2.1.l HS.out) rfl
  · intro γ w9 hS h
    have e13 : γ 13 = dgV s := h.2.2.2.2.2.2.2.2.2.2.2.2.2
    have HC := Kp.mk (cells50 HS.out)
    have HZ := Kp.mk (size50 HS.out)
    have HF := Kp.mk (hS.1.setRow s)
    have HBf := Kp.mk (Below.row hS.2.2 (g := w.heap.size) (Nat.le_refl _) (kv .u8 s).toArray)
    simp only [putE, Act.put, List.setIfInBounds_toArray, List.set_cons_zero, List.set_cons_succ]
    rw [e13]
    refine wpOps_step rfl rfl ?_
    refine wp_store_row 33 (.tmp 2) (.tmp 20) rfl w.heap.size (kv .u8 s).toArray rfl rfl 33 _ hS.1 HC.out HZ.out (kv_all _ _) ?_
    refine wpOps_done ?_
    clear h hS e13
    go_wp2_with fail
    refine bodyPost_ret (v := dgV s) ?_ rfl ⟨rfl, HBf.out⟩
    exact results_cell_row rfl _ _ w.heap.size 33 _ (0, 0) _ rfl HF.out Tryd.underlying33 rfl HC.out
/-- Two results: an array in a cell, and a slot. -/
theorem results_row_slot {P : Program} {fn : Func} {p q : Tmp} {ty : TypeId} (h : fn.results = #[.cell p ty, .tmp q]) (tmps : Array Value) (w : World) (g : Nat) (t : TypeId) (cs : Array Value) (fr : Nat × Nat) (d : TypeDesc) (u : Value)
    (hp : tmps.getD p undef = .pointer (some ⟨g, 0, none⟩)) (hq : tmps.getD q undef = u) (hg : w.heap[g]? = some (.cells cs t fr))
    (hu : P.underlying ty = some d) (hd : (match d with | .struct _ | .array _ _ => true | _ => false) = true) (hi : (P.info? ty).map (·.size) = some cs.size) :
    (results fn tmps).run P w = .ok (.tuple #[.agg cs, u]) w := by
  have hp' : tmps[p]?.getD undef = .pointer (some ⟨g, 0, none⟩) := by simpa using hp
  have hq' : tmps[q]?.getD undef = u := by simpa using hq
  simp [results, h, hp', hq', asAddr, run_loadVar_row w g t ty cs fr d hg hu hd hi]
set_option maxRecDepth 100000 in
set_option maxHeartbeats 1000000 in
theorem leaf_nil (i : Int) (w : World) : Calls Tryd.prog 65 #[.pointer none, .int .i64 i] w fun r w' => r = .returned (.tuple #[dgV zeroS, .int .i64 2]) ∧ Below w.heap.size w w' := by
  go_enter Tryd.func65, Tryd.ntmps65
  have HR : Kp (Row (w.alloc z50) w.heap.size 33 .u8 zeroS) := ⟨Blk.newAt (w := w) z50 rfl⟩
  have HF := Kp.mk (HR.out.setRow zeroS)
  have HBf := Kp.mk (Below.row (more (Below.refl _ _) z50) (g := w.heap.size) (Nat.le_refl _) (kv .u8 zeroS).toArray)
  go_wp2_with (refine wpList_store_row rfl 33 (.tmp 4) (.tmp 8) rfl w.heap.size (kv .u8 zeroS).toArray rfl rfl 33 _ HR.out (cells50 (l := zeroS) rfl) rfl (kv_all _ _) ?_)
  refine bodyPost_ret (v := .tuple #[dgV zeroS, .int .i64 2]) ?_ rfl ⟨rfl, HBf.out⟩
  exact results_row_slot rfl _ _ w.heap.size 33 _ (0, 0) _ _ rfl rfl HF.out Tryd.underlying33 rfl (cells50 (l := zeroS) rfl)
abbrev s7 : List Int := [7, 0, 0, 0, 0, 0, 0, 0, 0, 0, 0, 0, 0, 0, 0, 0]
abbrev s7V : Value := .agg #[.int .u8 7, .int .u8 0, .int .u8 0, .int .u8 0, .int .u8 0, .int .u8 0, .int .u8 0, .int .u8 0, .int .u8 0, .int .u8 0, .int .u8 0, .int .u8 0, .int .u8 0, .int .u8 0, .int .u8 0, .int .u8 0]
abbrev z0V : Value := .agg #[.int .u8 0, .int .u8 0, .int .u8 0, .int .u8 0, .int .u8 0, .int .u8 0, .int .u8 0, .int .u8 0, .int .u8 0, .int .u8 0, .int .u8 0, .int .u8 0, .int .u8 0, .int .u8 0, .int .u8 0, .int .u8 0]
theorem s7_bytes : Bytes s7 := by intro x hx; simp [s7] at hx; omega
theorem z0_bytes : Bytes zeroS := by intro x hx; have := List.eq_of_mem_replicate hx; omega
theorem eq_s7 (w : World) : (binOp .eql 33 s7V s7V).run Tryd.prog w = .ok (.bool true) w := eql50 s7_bytes rfl w
theorem eq_z0 (w : World) : (binOp .eql 33 z0V z0V).run Tryd.prog w = .ok (.bool true) w := eql50 z0_bytes rfl w
theorem eqg_s7 (x y : Operand) (w : World) : (eqGuard .eql 33 x y s7V s7V).run Tryd.prog w = .ok () w := by kernel_rfl
theorem eqg_z0 (x y : Operand) (w : World) : (eqGuard .eql 33 x y z0V z0V).run Tryd.prog w = .ok () w := by kernel_rfl
set_option maxRecDepth 100000 in
set_option maxHeartbeats 1000000 in
theorem awake7 (w : World) : Calls Tryd.prog 62 #[] w fun r w' => r = .returned (.bool true) ∧ Below w.heap.size w w' := by
  go_enter Tryd.func62, Tryd.ntmps62
  go_wp2_with fail
  refine calls_world (fun W => Row W w.heap.size 33 .u8 s7 ∧ Below w.heap.size w W) ⟨Blk.newAt (w := w) _ rfl, more (Below.refl _ _) _⟩ ?_
  rintro w1 ⟨h1, h2⟩
  have B1 := Kp.mk h2
  refine (new_one 1 2 w.heap.size s7 w1 h1 rfl).mono ?_
  rintro r w2 ⟨G, R, L, c, rfl, h3, h4⟩
  have O2 := Kp.mk h3
  have B2 : Kp (Below w.heap.size w w2) := ⟨B1.out.trans (h4.mono B1.out.size)⟩
  clear h1 h2 h3 h4
  have hqp : ∀ w, (binOp .eql 85 (.pointer (some ⟨G, 0, none⟩)) (.pointer none)).run Tryd.prog w = .ok (.bool false) w := fun w => rfl
  go_wp2_with fail
  clear hqp
  refine (path_one G R L c s7 w2 O2.out).mono ?_
  rintro r w3 ⟨rfl, h5⟩
  have O3 := Kp.mk (O2.out.keep h5)
  have B3 : Kp (Below w.heap.size w w3) := ⟨B2.out.trans (h5.mono B2.out.size)⟩
  clear h5
  go_wp2_with fail
  refine (root_one G R L c s7 w3 O3.out rfl).mono ?_
  rintro r w4 ⟨rfl, h6⟩
  have B4 : Kp (Below w.heap.size w w4) := ⟨B3.out.trans (h6.mono B3.out.size)⟩
  clear h6
  rw [show dgV s7 = s7V from rfl]
  have hq := eq_s7
  have hg := eqg_s7
  go_wp2_with fail
  clear hq hg
  refine (height_any 6 w4).mono ?_
  rintro r w5 ⟨hh, rfl, rfl, h7⟩
  have h8 : hh = -1 := by
    rcases h7 with ⟨i, hi, e1, e2⟩ | ⟨_, e⟩
    · exfalso
      rcases (show i = 0 ∨ i = 1 ∨ i = 2 ∨ i = 3 ∨ i = 4 ∨ i = 5 ∨ i = 6 by omega) with rfl | rfl | rfl | rfl | rfl | rfl | rfl <;> revert e1 <;> decide
    · exact e
  subst h8
  clear h7
  go_wp2_with fail
  go_ret
  exact ⟨rfl, B4.out⟩
set_option maxRecDepth 100000 in
set_option maxHeartbeats 1000000 in
theorem groveNil_walk (x0 : Int) (w : World) (_w0 : (Lit.int .i64 x0).wf = true) (_hk : KonIs w) : Calls Tryd.prog 17 #[.int .i64 x0] w fun r w' => r = .returned (.bool true) ∧ Below w.heap.size w w' := by
  clear _w0 _hk
  go_enter Tryd.func17, Tryd.ntmps17
  go_wp2_with fail
  refine (leaf_nil x0 w).mono ?_
  rintro r w1 ⟨rfl, h1⟩
  have B1 := Kp.mk h1
  clear h1
  rw [show dgV zeroS = z0V from rfl]
  have HR : Kp (Row (w1.alloc z50) w1.heap.size 33 .u8 zeroS) := ⟨Blk.newAt (w := w1) z50 rfl⟩
  have HB2 : Kp (Below w.heap.size w ((w1.alloc z50).setRow w1.heap.size (kv .u8 zeroS).toArray)) := ⟨Below.row (more B1.out z50) B1.out.size _⟩
  go_wp2_with (refine wpList_store_row rfl 33 (.tmp 4) (.tmp 12) rfl w1.heap.size (kv .u8 zeroS).toArray rfl rfl 33 _ HR.out (cells50 (l := zeroS) rfl) rfl (kv_all _ _) ?_; refine wpl_world (fun W => Below w.heap.size w W) HB2.out ?_; rintro w2 q2; have B2 := Kp.mk q2; clear q2 HR HB2)
  refine (path_nil x0 _).mono ?_
  rintro r w3 ⟨rfl, rfl⟩
  go_wp2_with fail
  refine (awake7 _).mono ?_
  rintro r w4 ⟨rfl, h4⟩
  have B4 : Kp (Below w.heap.size w w4) := ⟨B2.out.trans (h4.mono B2.out.size)⟩
  clear h4
  go_wp2_with fail
  refine (root_nil w4).mono ?_
  rintro r w5 ⟨rfl, h5⟩
  have B5 : Kp (Below w.heap.size w w5) := ⟨B4.out.trans (h5.mono B4.out.size)⟩
  clear h5
  rw [show dgV zeroS = z0V from rfl]
  have hq := eq_z0
  have hg := eqg_z0
  go_wp2_with fail
  go_ret
  exact ⟨rfl, B5.out⟩
end Go.Proofs.YtahmioiefmheeaaDoor

namespace Go.Proofs.YtahmioiefmheeaaDoor
open Go.ChangeShapes Go.WideShapes Go.ChangeAt Go.RowKit Go.Deep

theorem c32 : Tryd.prog.cellsOf 32 = 16 := by kernel_rfl
theorem c5 : Tryd.prog.cellsOf 5 = 1 := by kernel_rfl
section
variable {H : Type} {enc : TypeId × Value → H} {W : World}
theorem sum_of {n : Nat} {cs : List Value} {x : DataW H × List MemPlace} (h : DataW.trod enc Tryd.prog W 0 (fun _ => true) true n 32 cs = some x) : ∃ p, cs = bv p ∧ p.length = 16 ∧ Bytes p := by
  obtain ⟨ys, k, _, _, hl, hy, hg⟩ := DataW.trod_array Tryd.underlying32 h
  rw [c32] at hl
  rw [c5] at hg
  have each : ∀ j, j < 16 → ∃ z : Int, cs[j]? = some (.int .u8 z) ∧ 0 ≤ z ∧ z ≤ 255 := fun j hj => by
    have h1 := hg j (by omega)
    rw [List.getElem?_eq_getElem (show j < ys.length by omega), Nat.mul_one] at h1
    obtain ⟨z, e0, _, wz⟩ := DataW.trod_int Tryd.underlying5 h1
    have h2 : IntKind.u8.min = 0 := rfl
    have h3 : IntKind.u8.max = 255 := rfl
    simp [Lit.wf, h2, h3] at wz
    refine ⟨z, ?_, wz⟩
    have h4 : ((cs.drop j).take 1)[0]? = some (.int .u8 z) := by rw [e0]; rfl
    rw [List.getElem?_take, if_pos (by omega), List.getElem?_drop] at h4
    simpa using h4
  obtain ⟨f, hf⟩ : ∃ f : Nat → Int, ∀ j, j < 16 → cs[j]? = some (.int .u8 (f j)) ∧ 0 ≤ f j ∧ f j ≤ 255 := by
    refine ⟨fun j => if h : j < 16 then Classical.choose (each j h) else 0, fun j hj => ?_⟩
    simp only [hj, dif_pos]
    exact Classical.choose_spec (each j hj)
  refine ⟨(List.range 16).map f, ?_, by simp, fun y hy => ?_⟩
  · apply List.ext_getElem?
    intro j
    by_cases hj : j < 16
    · rw [(hf j hj).1, List.getElem?_map, List.getElem?_map, List.getElem?_range hj]; rfl
    · rw [List.getElem?_eq_none (by omega), List.getElem?_eq_none (by simp; omega)]
  · obtain ⟨j, hj, rfl⟩ := List.mem_map.1 hy
    exact (hf j (List.mem_range.1 hj)).2

theorem sums_of {n : Nat} {v : Value} {x : DataW H × List MemPlace} (h : DataW.trod enc Tryd.prog W 0 (fun _ => true) true n 65 [v] = some x) : ∃ k S, HoldsS W v k S := by
  rcases open_slice Tryd.underlying65 h with ⟨hcs, _⟩ | ⟨a, len, cap, m, n', D, Pl, hcs, hb, hl, hm, hmm, hx, hi⟩
  · simp at hcs
    subst hcs
    exact ⟨0, [], none, 0, rfl, rfl, by unfold maxLen; omega, Bytes.nil, fun h => by omega⟩
  · simp at hcs
    subst hcs
    have hmc : m = cap := by simpa using hmm
    rw [c32] at hi
    have each : ∀ i, i < len → ∃ p : List Int, W.cells? 0 (a.add (i * 16)) 16 = some (bv p) ∧ p.length = 16 ∧ Bytes p := fun i him => by
      obtain ⟨cs, hc, ht⟩ := hi i (by omega)
      obtain ⟨p, rfl, hp⟩ := sum_of ht
      exact ⟨p, hc, hp⟩
    have hs : 0 < len → a.spot = none := fun h0 => by
      obtain ⟨p, hc, hp, _⟩ := each 0 h0
      obtain ⟨_, _, hat⟩ := World.cells?_some hc
      have h1 := hat 0 (by omega)
      rw [List.getElem?_map, List.getElem?_eq_getElem (show 0 < p.length by omega)] at h1
      simpa [Addr.add] using World.cell?_spot h1
    have hcell : ∀ j, j < len * 16 → ∃ z : Int, W.cell? (a.add j) = some (.int .u8 z) ∧ 0 ≤ z ∧ z ≤ 255 := fun j hj => by
      obtain ⟨p, hc, hp, hB⟩ := each (j / 16) (by omega)
      obtain ⟨_, _, hat⟩ := World.cells?_some hc
      have h1 := hat (j % 16) (by omega)
      have h2 : (a.add (j / 16 * 16)).add (j % 16) = a.add j := by
        have h3 : j / 16 * 16 + j % 16 = j := by omega
        obtain ⟨b, off, sp⟩ := a
        have h4 : sp = none := hs (by omega)
        subst h4
        rw [add_plain, add_plain, add_plain, Nat.add_assoc, h3]
      rw [h2, List.getElem?_map, List.getElem?_eq_getElem (show j % 16 < p.length by omega)] at h1
      exact ⟨_, h1, hB _ (List.getElem_mem _)⟩
    obtain ⟨f, hf⟩ : ∃ f : Nat → Int, ∀ j, j < len * 16 → W.cell? (a.add j) = some (.int .u8 (f j)) ∧ 0 ≤ f j ∧ f j ≤ 255 := by
      refine ⟨fun j => if h : j < len * 16 then Classical.choose (hcell j h) else 0, fun j hj => ?_⟩
      simp only [hj, dif_pos]
      exact Classical.choose_spec (hcell j hj)
    refine ⟨len, (List.range (len * 16)).map f, some a, cap, rfl, by simp, by omega, fun y hy => ?_, fun h0 => ?_⟩
    · obtain ⟨j, hj, rfl⟩ := List.mem_map.1 hy
      exact (hf j (List.mem_range.1 hj)).2
    · obtain ⟨b, off, spot⟩ := a
      have h00 := (hf 0 (by omega)).1
      have hspot : spot = none := by simpa [Addr.add] using World.cell?_spot h00
      subst hspot
      refine ⟨b, off, rfl, by simpa [Addr.add] using World.block_lt_of_cell? W _ h00, fun j hj => ?_⟩
      have := (hf j hj).1
      rw [add_plain] at this
      rw [this, List.getD_eq_getElem?_getD, List.getElem?_map, List.getElem?_range hj]; rfl
end
theorem row_sums {H : Type} {enc : TypeId × Value → H} {W : World} {a : Option Addr} {len cap : Nat} {d : DataW H} {p : List MemPlace}
    (k : DataW.Trod enc Tryd.prog W 0 (fun _ => true) true 65 (.slice a len cap) d p) : ∃ l, HoldsS W (.slice a len cap) len l ∧ len ≤ cap ∧ cap ≤ maxLen := by
  obtain ⟨fuel, hf⟩ := k
  have hcap : len ≤ cap ∧ cap ≤ maxLen := by
    have hf' : DataW.trod enc Tryd.prog W 0 (fun _ => true) true fuel 65 [.slice a len cap] = some (d, p) := by simpa [Value.cells] using hf
    rcases open_slice Tryd.underlying65 hf' with ⟨hcs, _⟩ | ⟨a', len', cap', m, n', D, Pl, hcs, hb, hl, hm, hmm, hx, hi⟩
    · simp at hcs
      obtain ⟨_, rfl, rfl⟩ := hcs
      exact ⟨Nat.le_refl _, by unfold maxLen; omega⟩
    · simp at hcs
      obtain ⟨_, rfl, rfl⟩ := hcs
      exact ⟨by omega, by omega⟩
  obtain ⟨n, l, h⟩ := sums_of (n := fuel) (v := .slice a len cap) (by simpa [Value.cells] using hf)
  obtain ⟨a', cap', e, _⟩ := id h
  simp only [Value.slice.injEq] at e
  obtain ⟨_, rfl, _⟩ := e
  exact ⟨l, h, hcap⟩
end Go.Proofs.YtahmioiefmheeaaDoor
