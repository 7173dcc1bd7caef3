/-
  Plan.those: by what Waits asks, and by what Due asks.
-/
import Derived.Test.YtfnjfoconklhiaaStD
import Derived.Deep.WholeRow
namespace Go.Proofs.Ytfnjfoconklhiaa
open Go.RowKit

abbrev nv (l : List Nat) : List Value := l.map fun d : Nat => Value.int .i64 (d : Int)
def RowPost (l : List Nat) (w : World) (r : Ending) (w' : World) : Prop := ∃ v, r = .returned v ∧ w'.ownsRow w.heap.size 3 1 v l.length (nv l) ∧ Below w.heap.size w w'
theorem info3' : (Try.prog.info? 3).map (fun i => (i.zero, i.size, i.bytes)) = some (some (.int .i64 0), 1, 8) := by kernel_rfl
theorem index_at (p : PS) {i : Nat} (hi : i < 8) (w : World) : (Instr.index 70 (.agg ((pcs p).drop 4).toArray) (.int .i64 i)).run Try.prog w = .ok (.agg (nwc (p.all i)).toArray) w := by
  have h : i = 0 ∨ i = 1 ∨ i = 2 ∨ i = 3 ∨ i = 4 ∨ i = 5 ∨ i = 6 ∨ i = 7 := by omega
  clear hi
  rcases h with rfl | rfl | rfl | rfl | rfl | rfl | rfl | rfl
  all_goals (show _ = _; kernel_rfl)
theorem ownsRow_type {w : World} {B e sz n g : Nat} {v : Value} {xs : List Value} (h : w.ownsRow B e sz v n xs) (hg : v.ownBlock = some g) : ∃ cur, w.heap[g]? = some (.cells cur e (0, 0)) := by
  rcases h.2 with ⟨rfl, hn⟩ | ⟨g', cap, cur, rfl, hb, hg', h1, h2, h3, h4⟩
  · cases hg
  · cases hg
    exact ⟨_, hg'⟩
theorem Blk.grown {w w' : World} {a B e sz n : Nat} {c1 : Array Value} {t1 : TypeId} {f1 : Nat × Nat} {v : Value} {xs : List Value} (h1 : Blk w a (.cells c1 t1 f1)) (h2 : w.ownsRow B e sz v n xs) (hg : w.grownBy w' v.ownBlock) (h : t1 ≠ e) : Blk w' a (.cells c1 t1 f1) :=
  (hg.block _ h1.lt (fun e2 => by
    obtain ⟨cur, hc⟩ := ownsRow_type h2 e2.symm
    rw [show w.heap[a]? = _ from h1] at hc
    injection hc with e
    injection e with _ e
    exact h e)).trans h1
theorem DQ.grown {p : PS} {now : Int} {b B2 B3 : Nat} {w w' : World} {B n : Nat} {v : Value} {xs : List Value} (h : DQ p now b B2 B3 w) (h2 : w.ownsRow B 3 1 v n xs) (hg : w.grownBy w' v.ownBlock) : DQ p now b B2 B3 w' :=
  ⟨h.p.grown h2 hg (by decide), h.b2.grown h2 hg (by decide), h.b3.grown h2 hg (by decide)⟩
set_option maxRecDepth 100000 in
set_option maxHeartbeats 3200000 in
theorem those_waits (p : PS) (b : Nat) (w : World) (h : Blk w b p.obj) :
    Calls Try.prog 26 #[.pointer (some ⟨b, 0, none⟩), .func (.func 29) #[] #[]] w (RowPost (those p (fun n => n.waits) 8) w) := by
  have HC : Kp (∀ i, i < 8 → ∀ wx, Blk wx b p.obj → Calls Try.prog 29 #[.agg (nwc (p.all i)).toArray] wx fun r w' => r = .returned (.bool ((fun n => n.waits) (p.all i))) ∧ Below wx.heap.size wx w') := ⟨fun i hi wx hx => waitsq_any _ wx⟩
  obtain ⟨Q, hQ⟩ : ∃ Q : NW → Bool, Q = (fun n => n.waits) := ⟨_, rfl⟩
  rw [← hQ] at HC ⊢
  clear hQ
  have HS := Kp.mk h
  obtain ⟨i0, hi, hz0, hz1, hz2⟩ := info_parts info3'
  have HR4 : Kp (w.rangeAt b 4 ((pcs p).drop 4)) := ⟨Blk.range (o := 4) h rfl⟩
  clear h
  obtain ⟨A, hA⟩ : ∃ A, A = w.heap.size := ⟨_, rfl⟩
  have HAe := Kp.mk hA
  clear hA
  go_enter Try.func26, Try.ntmps26
  go_wp2_with (refine wpList_load_mid rfl 70 (.tmp 12) rfl b 4 rfl ((pcs p).drop 4) _ HR4.out Try.underlying70 rfl (by kernel_rfl) ?_)
  go_loopw [5, 14] (fun v ct wr => ∃ i : Nat, i ≤ 8 ∧ ct = .int .i64 i ∧ Kp (wr.ownsRow A 3 1 v (those p Q i).length (nv (those p Q i))) ∧ Kp (Blk wr b p.obj) ∧ Kp (Below A w wr) ∧ Kp (A ≤ wr.heap.size)) (fun _ ct _ => 8 - (intOf ct).toNat)
  case atStart => exact ⟨0, by omega, rfl, ⟨World.ownsRow_nil _ _ _ _⟩, HS, ⟨by rw [HAe.out]; exact Below.refl _ _⟩, ⟨by rw [HAe.out]; exact Nat.le_refl _⟩⟩
  case round =>
    obtain ⟨i, hi8, rfl, HO, S0, E0, Z0⟩ := hrel
    by_cases hlt : i < 8
    · have hix := index_at p hlt
      have HCi := Kp.mk (HC.out i hlt)
      have HNE := those_yes (p := p) (q := Q) (i := i)
      have HNO := those_no (p := p) (q := Q) (i := i)
      have HQN := Kp.mk (And.intro HNE HNO)
      clear HNE HNO
      generalize p.all i = n at hix HCi HQN
      go_wp2_with (first
        | (refine wpList_store_row rfl 69 (.tmp 7) (.tmp 17) rfl wr.heap.size (nwc n).toArray rfl rfl 69 _ (Blk.newAt _ rfl) (info69s n) rfl (all_oneCell_toArray (nwc_one n)) ?_
           refine wpl_world (fun W => Blk W wr.heap.size (.cells (nwc n).toArray 69) ∧ W.ownsRow A 3 1 u5 (those p Q i).length (nv (those p Q i)) ∧ Blk W b p.obj ∧ Below A w W ∧ A ≤ W.heap.size) ⟨by rw [World.setRow_alloc_new]; exact Blk.new _ _, by rw [World.setRow_alloc_new]; exact HO.out.alloc _, by rw [World.setRow_alloc_new]; exact Blk.keep S0.out (more (Below.refl _ _) _), by rw [World.setRow_alloc_new]; exact E0.out.alloc Z0.out _, by rw [World.setRow_alloc_new]; have := Z0.out; simp; omega⟩ ?_
           intro W1 hW1
           have K1 := Kp.mk hW1
           clear hW1)
        | (refine wpList_load_row rfl 69 (.tmp 7) rfl wr.heap.size rfl 69 _ (0, 0) _ K1.out.1 Try.underlying69 rfl (info69s n) ?_))
      refine (HCi.out W1 K1.out.2.2.1).mono ?_
      rintro r w1 ⟨rfl, hb⟩
      have HO1 := Kp.mk (ownsRow_below K1.out.2.1 hb)
      have S1 : Kp (Blk w1 b p.obj) := ⟨Blk.keep K1.out.2.2.1 hb⟩
      have E1 : Kp (Below A w w1) := ⟨K1.out.2.2.2.1.trans (hb.mono K1.out.2.2.2.2)⟩
      have Z1 : Kp (A ≤ w1.heap.size) := ⟨Nat.le_trans K1.out.2.2.2.2 hb.size⟩
      clear hb HO E0 Z0 S0 K1 hix
      have HL := Kp.mk (those_len p Q i)
      cases hs : Q n with
      | false =>
        have HD := Kp.mk (HQN.out.2 hs)
        clear hs HQN
        go_wp2_with fail
        exact ⟨⟨i + 1, by omega, by go_num, ⟨by rw [HD.out]; exact HO1.out⟩, S1, E1, Z1⟩, by simp [intOf]; omega⟩
      | true =>
        have HD := Kp.mk (HQN.out.1 hs)
        clear hs HQN
        obtain ⟨l, hl⟩ : ∃ l, l = those p Q i := ⟨_, rfl⟩
        rw [← hl] at HO1 HD HL
        clear hl
        go_wp2_with (at_builtin; refine wpList_append_own _ rfl _ _ 48 rfl A 3 i0 (.int .i64 0) 1 8 Try.underlying48 hi hz0 hz1 hz2 rfl (by decide) _ l.length (nv l) rfl (HO1.out.alloc _) ⟨w1.heap.size, 0, none⟩ 1 1 [.int .i64 i] rfl rfl ?c1 ?c2 ?c3 ?c4 ?c5 ?_)
        case c1 =>
          intro j u hj
          match j, hj with
          | 0, hj => simp at hj; subst hj; simp [Addr.add]
        case c2 =>
          intro u hu
          simp at hu
          subst hu
          rfl
        case c3 => have := HL.out; unfold maxLen; omega
        case c4 => have := HL.out; omega
        case c5 => have := Z1.out; simp; omega
        · intro v' w3 hown' hgrow _
          have HO3 := Kp.mk hown'
          have HG3 := Kp.mk hgrow
          have S3 : Kp (Blk w3 b p.obj) := ⟨(Blk.old S1.out _).grown (HO1.out.alloc _) HG3.out (by decide)⟩
          clear hown' hgrow
          go_wp2_with fail
          refine ⟨⟨i + 1, by omega, by go_num, ⟨by have h9 := HO3.out; rw [HD.out]; simpa [nv] using h9⟩, S3, ⟨below_row_grown (E1.out.alloc Z1.out _) (by have := Z1.out; simp; omega) (HO1.out.alloc _) HG3.out⟩, ⟨by have h8 := HG3.out.size; have := Z1.out; simp at h8; omega⟩⟩, by simp [intOf]; omega⟩
    · obtain rfl : i = 8 := by omega
      go_wp2_with fail
      go_ret
      exact ⟨_, rfl, by rw [← HAe.out]; exact HO.out, by rw [← HAe.out]; exact E0.out⟩
set_option maxRecDepth 100000 in
set_option maxHeartbeats 3200000 in
theorem those_due (p : PS) (now : Int) (b B2 B3 : Nat) (w : World) (hn : ∀ d, d < 8 → tmB (p.all d).first = true) (hp : 0 ≤ p.settle ∧ p.settle ≤ 1048576) (h : DQ p now b B2 B3 w) :
    Calls Try.prog 26 #[.pointer (some ⟨b, 0, none⟩), .func (.func 27) #[] #[.pointer (some ⟨B2, 0, none⟩), .pointer (some ⟨B3, 0, none⟩)]] w (RowPost (those p (p.ripe now) 8) w) := by
  have HC : Kp (∀ i, i < 8 → ∀ wx, (DQ p now b B2 B3) wx → Calls Try.prog 27 #[.agg (nwc (p.all i)).toArray, .pointer (some ⟨B2, 0, none⟩), .pointer (some ⟨B3, 0, none⟩)] wx fun r w' => r = .returned (.bool ((p.ripe now) (p.all i))) ∧ Below wx.heap.size wx w') := ⟨fun i hi wx hx => dueq_any p now b B2 B3 _ wx (hn i hi) hp hx⟩
  obtain ⟨Q, hQ⟩ : ∃ Q : NW → Bool, Q = (p.ripe now) := ⟨_, rfl⟩
  rw [← hQ] at HC ⊢
  clear hQ
  have HS := Kp.mk h
  obtain ⟨i0, hi, hz0, hz1, hz2⟩ := info_parts info3'
  have HR4 : Kp (w.rangeAt b 4 ((pcs p).drop 4)) := ⟨Blk.range (o := 4) h.p rfl⟩
  clear h hn hp
  obtain ⟨A, hA⟩ : ∃ A, A = w.heap.size := ⟨_, rfl⟩
  have HAe := Kp.mk hA
  clear hA
  go_enter Try.func26, Try.ntmps26
  go_wp2_with (refine wpList_load_mid rfl 70 (.tmp 12) rfl b 4 rfl ((pcs p).drop 4) _ HR4.out Try.underlying70 rfl (by kernel_rfl) ?_)
  go_loopw [5, 14] (fun v ct wr => ∃ i : Nat, i ≤ 8 ∧ ct = .int .i64 i ∧ Kp (wr.ownsRow A 3 1 v (those p Q i).length (nv (those p Q i))) ∧ Kp ((DQ p now b B2 B3) wr) ∧ Kp (Below A w wr) ∧ Kp (A ≤ wr.heap.size)) (fun _ ct _ => 8 - (intOf ct).toNat)
  case atStart => exact ⟨0, by omega, rfl, ⟨World.ownsRow_nil _ _ _ _⟩, HS, ⟨by rw [HAe.out]; exact Below.refl _ _⟩, ⟨by rw [HAe.out]; exact Nat.le_refl _⟩⟩
  case round =>
    obtain ⟨i, hi8, rfl, HO, S0, E0, Z0⟩ := hrel
    by_cases hlt : i < 8
    · have hix := index_at p hlt
      have HCi := Kp.mk (HC.out i hlt)
      have HNE := those_yes (p := p) (q := Q) (i := i)
      have HNO := those_no (p := p) (q := Q) (i := i)
      have HQN := Kp.mk (And.intro HNE HNO)
      clear HNE HNO
      generalize p.all i = n at hix HCi HQN
      go_wp2_with (first
        | (refine wpList_store_row rfl 69 (.tmp 7) (.tmp 17) rfl wr.heap.size (nwc n).toArray rfl rfl 69 _ (Blk.newAt _ rfl) (info69s n) rfl (all_oneCell_toArray (nwc_one n)) ?_
           refine wpl_world (fun W => Blk W wr.heap.size (.cells (nwc n).toArray 69) ∧ W.ownsRow A 3 1 u5 (those p Q i).length (nv (those p Q i)) ∧ (DQ p now b B2 B3) W ∧ Below A w W ∧ A ≤ W.heap.size) ⟨by rw [World.setRow_alloc_new]; exact Blk.new _ _, by rw [World.setRow_alloc_new]; exact HO.out.alloc _, by rw [World.setRow_alloc_new]; exact S0.out.keep (more (Below.refl _ _) _), by rw [World.setRow_alloc_new]; exact E0.out.alloc Z0.out _, by rw [World.setRow_alloc_new]; have := Z0.out; simp; omega⟩ ?_
           intro W1 hW1
           have K1 := Kp.mk hW1
           clear hW1)
        | (refine wpList_load_row rfl 69 (.tmp 7) rfl wr.heap.size rfl 69 _ (0, 0) _ K1.out.1 Try.underlying69 rfl (info69s n) ?_))
      refine (HCi.out W1 K1.out.2.2.1).mono ?_
      rintro r w1 ⟨rfl, hb⟩
      have HO1 := Kp.mk (ownsRow_below K1.out.2.1 hb)
      have S1 : Kp ((DQ p now b B2 B3) w1) := ⟨K1.out.2.2.1.keep hb⟩
      have E1 : Kp (Below A w w1) := ⟨K1.out.2.2.2.1.trans (hb.mono K1.out.2.2.2.2)⟩
      have Z1 : Kp (A ≤ w1.heap.size) := ⟨Nat.le_trans K1.out.2.2.2.2 hb.size⟩
      clear hb HO E0 Z0 S0 K1 hix
      have HL := Kp.mk (those_len p Q i)
      cases hs : Q n with
      | false =>
        have HD := Kp.mk (HQN.out.2 hs)
        clear hs HQN
        go_wp2_with fail
        exact ⟨⟨i + 1, by omega, by go_num, ⟨by rw [HD.out]; exact HO1.out⟩, S1, E1, Z1⟩, by simp [intOf]; omega⟩
      | true =>
        have HD := Kp.mk (HQN.out.1 hs)
        clear hs HQN
        obtain ⟨l, hl⟩ : ∃ l, l = those p Q i := ⟨_, rfl⟩
        rw [← hl] at HO1 HD HL
        clear hl
        go_wp2_with (at_builtin; refine wpList_append_own _ rfl _ _ 48 rfl A 3 i0 (.int .i64 0) 1 8 Try.underlying48 hi hz0 hz1 hz2 rfl (by decide) _ l.length (nv l) rfl (HO1.out.alloc _) ⟨w1.heap.size, 0, none⟩ 1 1 [.int .i64 i] rfl rfl ?c1 ?c2 ?c3 ?c4 ?c5 ?_)
        case c1 =>
          intro j u hj
          match j, hj with
          | 0, hj => simp at hj; subst hj; simp [Addr.add]
        case c2 =>
          intro u hu
          simp at hu
          subst hu
          rfl
        case c3 => have := HL.out; unfold maxLen; omega
        case c4 => have := HL.out; omega
        case c5 => have := Z1.out; simp; omega
        · intro v' w3 hown' hgrow _
          have HO3 := Kp.mk hown'
          have HG3 := Kp.mk hgrow
          have S3 : Kp ((DQ p now b B2 B3) w3) := ⟨(S1.out.old _).grown (HO1.out.alloc _) HG3.out⟩
          clear hown' hgrow
          go_wp2_with fail
          refine ⟨⟨i + 1, by omega, by go_num, ⟨by have h9 := HO3.out; rw [HD.out]; simpa [nv] using h9⟩, S3, ⟨below_row_grown (E1.out.alloc Z1.out _) (by have := Z1.out; simp; omega) (HO1.out.alloc _) HG3.out⟩, ⟨by have h8 := HG3.out.size; have := Z1.out; simp at h8; omega⟩⟩, by simp [intOf]; omega⟩
    · obtain rfl : i = 8 := by omega
      go_wp2_with fail
      go_ret
      exact ⟨_, rfl, by rw [← HAe.out]; exact HO.out, by rw [← HAe.out]; exact E0.out⟩
end Go.Proofs.Ytfnjfoconklhiaa
