/-
  Is a credential light? The law's entries.
  A piece's bytes, by the program and by the document: in new memory.
  Bodies: what they are; isWhole; the program's Bodies.
-/
import Derived.Test.YtioeaknhcfkfcaaBu12
import Derived.Deep.MidRow
import Derived.IntWalk
namespace Go.Proofs.Ytioeaknhcfkfcaa
open Go.RowKit

theorem cc_cell16' {w : World} {A t : Nat} {lf : List Int} {a : Option Addr} {n c : Nat} {b : Option Addr} {m d : Nat} (hl : lf.length = 16) (h : Blk w A (.cells (cc lf a n c b m d).toArray t)) : w.cell? ⟨A, 16, none⟩ = some (.slice a n c) := (h.cell 16).trans (by rw [List.getElem?_toArray]; exact cc_16 hl _ _ _ _ _ _)
theorem cc_cell17' {w : World} {A t : Nat} {lf : List Int} {a : Option Addr} {n c : Nat} {b : Option Addr} {m d : Nat} (hl : lf.length = 16) (h : Blk w A (.cells (cc lf a n c b m d).toArray t)) : w.cell? ⟨A, 17, none⟩ = some (.slice b m d) := (h.cell 17).trans (by rw [List.getElem?_toArray]; exact cc_17 hl _ _ _ _ _ _)
set_option maxRecDepth 100000 in
set_option maxHeartbeats 4000000 in
theorem light7_any (lf : List Int) (wa : Option Addr) (wn wc : Nat) (pa : Option Addr) (pn pc : Nat) (w : World) (hl : lf.length = 16) (hwn : wn ≤ maxLen) (hpn : pn ≤ maxLen) :
    Calls Try.prog 7 #[.agg (cc lf wa wn wc pa pn pc).toArray] w fun r w' => r = .returned (.bool (decide (wn ≤ 20 ∧ pn ≤ 20))) ∧ Below w.heap.size w w' := by
  have hC := fun (w : World) => box_row (t := 30) (cs := cc lf wa wn wc pa pn pc) (info103s hl _ _ _ _ _ _) w
  obtain ⟨A, hA⟩ : ∃ A, A = w.heap.size := ⟨_, rfl⟩
  have HAe := Kp.mk hA
  have HB : Kp (Blk (w.alloc (.cells (cc lf wa wn wc pa pn pc).toArray 30)) A (.cells (cc lf wa wn wc pa pn pc).toArray 30) ∧ Below A w (w.alloc (.cells (cc lf wa wn wc pa pn pc).toArray 30))) := ⟨Blk.newAt _ hA, by rw [hA]; exact more (Below.refl _ _) _⟩
  have HL := Kp.mk hl
  have hw9 : wn ≤ 9223372036854775807 := by unfold maxLen at hwn; omega
  have hp9 : pn ≤ 9223372036854775807 := by unfold maxLen at hpn; omega
  clear hwn hpn
  by_cases h1 : wn ≤ 20
  · by_cases h2 : pn ≤ 20
    · go_enter Try.func7, Try.ntmps7
      go_wp2_with (refine wpList_box_eq rfl 30 (.tmp 0) rfl _ rfl _ _ (hC _) ?_; rw [← HAe.out]; refine wpl_world (fun W => Blk W A (.cells (cc lf wa wn wc pa pn pc).toArray 30) ∧ Below A w W) HB.out ?_; rintro W hW; have ST := Kp.mk hW; have q1 := cc_cell16' HL.out hW.1; have q2 := cc_cell17' HL.out hW.1; clear hW HB hC hA)
      go_ret
      exact ⟨retb (by first | (simp [h1, h2]; done) | (simp [h1, h2]; omega)), by rw [← HAe.out]; exact ST.out.2⟩
    · go_enter Try.func7, Try.ntmps7
      go_wp2_with (refine wpList_box_eq rfl 30 (.tmp 0) rfl _ rfl _ _ (hC _) ?_; rw [← HAe.out]; refine wpl_world (fun W => Blk W A (.cells (cc lf wa wn wc pa pn pc).toArray 30) ∧ Below A w W) HB.out ?_; rintro W hW; have ST := Kp.mk hW; have q1 := cc_cell16' HL.out hW.1; have q2 := cc_cell17' HL.out hW.1; clear hW HB hC hA)
      go_ret
      exact ⟨retb (by first | (simp [h1, h2]; done) | (simp [h1, h2]; omega)), by rw [← HAe.out]; exact ST.out.2⟩
  · go_enter Try.func7, Try.ntmps7
    go_wp2_with (refine wpList_box_eq rfl 30 (.tmp 0) rfl _ rfl _ _ (hC _) ?_; rw [← HAe.out]; refine wpl_world (fun W => Blk W A (.cells (cc lf wa wn wc pa pn pc).toArray 30) ∧ Below A w W) HB.out ?_; rintro W hW; have ST := Kp.mk hW; have q1 := cc_cell16' HL.out hW.1; have q2 := cc_cell17' HL.out hW.1; clear hW HB hC hA)
    go_ret
    exact ⟨retb (by simp [h1]), by rw [← HAe.out]; exact ST.out.2⟩
/-- Entries on their way from one kind to the other. -/
structure TE (w : World) (A : Nat) (te t : TypeId) (n : Nat) (a : Option Addr) (f : Nat → E3) (v : Value) (xs : List E3) (W : World) : Prop where
  es : EOs W te t A v xs
  e : HoldsW W A a n f
  below : Below A w W
  le : A ≤ W.heap.size
theorem TE.more {w W W' : World} {A : Nat} {te t : TypeId} {n : Nat} {a : Option Addr} {f : Nat → E3} {v : Value} {xs : List E3} (h : TE w A te t n a f v xs W) (hb : Below W.heap.size W W') : TE w A te t n a f v xs W' :=
  ⟨h.es.keep hb, h.e.keep hb, h.below.trans (hb.mono h.le), Nat.le_trans h.le hb.size⟩
theorem TE.app {w W w3 : World} {A : Nat} {te t : TypeId} {n : Nat} {a : Option Addr} {f : Nat → E3} {v v' : Value} {xs : List E3} {z : E3} (h : TE w A te t n a f v xs W) (hz : EOw W t A z) (ht : t ≠ te)
    (ho : w3.ownsRow A te 22 v' (xs.length + 1) (ecs xs ++ ec z.1)) (hg : (W.alloc (.cells (ec z.1).toArray te)).grownBy w3 v.ownBlock) : TE w A te t n a f v' (xs ++ [z]) w3 := by
  have hm' : Below W.heap.size W (W.alloc (.cells (ec z.1).toArray te)) := Go.Proofs.Ytioeaknhcfkfcaa.more (Below.refl _ _) _
  have hes := h.es.keep hm'
  have hl := h.le
  have hb : Below A W w3 := below_row_grown (hm'.mono hl) (by simp; omega) hes.v hg
  exact ⟨hes.app (hz.keep hm') ht ho hg, h.e.upto hb (Nat.le_refl _), h.below.trans hb, Nat.le_trans hl hb.size⟩
/-- What is made out of entries. -/
def TEPost (te t : TypeId) (n : Nat) (f : Nat → E3) (w : World) (r : Ending) (w' : World) : Prop :=
  ∃ a c xs, r = .returned (.slice a n c) ∧ EOs w' te t w.heap.size (.slice a n c) xs ∧ xs.length = n ∧ (∀ j z, xs[j]? = some z → SameE (f j) z) ∧ Below w.heap.size w w'
set_option maxRecDepth 100000 in
set_option maxHeartbeats 16000000 in
theorem entries_any (a : Option Addr) (n c : Nat) (f : Nat → E3) (w : World) (h : HoldsW w w.heap.size a n f) (hn : n ≤ 1000000) :
    Calls Try.prog 9 #[.slice a n c] w (TEPost 76 70 n f w) := by
  obtain ⟨A, hA⟩ : ∃ A, A = w.heap.size := ⟨_, rfl⟩
  have HAe := Kp.mk hA
  have HN := Kp.mk hn
  obtain ⟨i0, hi0, hz0, hz1, hz2⟩ := info_parts info115z
  have S0 : Kp (TE w A 76 70 n a f (.slice none 0 0) [] w) := ⟨⟨World.ownsRow_nil _ _ _ _, fun z hz => by cases hz⟩, by rw [hA]; exact h, Below.refl _ _, by rw [hA]; exact Nat.le_refl _⟩
  clear h hA
  go_enter Try.func9, Try.ntmps9
  go_wp2_with fail
  go_loopw [3, 8] (fun sv ct wr => ∃ (i : Nat) (av : Option Addr) (nv cv : Nat) (xs : List E3), i ≤ n ∧ ct = .int .i64 i ∧ sv = .slice av nv cv ∧ Kp (TE w A 76 70 n a f (.slice av nv cv) xs wr) ∧ Kp (SameRow f i xs)) (fun _ ct _ => n - (intOf ct).toNat)
  case atStart => exact ⟨0, none, 0, 0, [], by omega, rfl, rfl, S0, ⟨rfl, fun j z hz => by simp at hz⟩⟩
  case round =>
    obtain ⟨i, av, nv, cv, xs, hi, rfl, rfl, HS, HXS⟩ := hrel
    by_cases hlt : i < n
    · obtain ⟨b, off, rfl, -, -, k1⟩ := HS.out.e.c i hlt
      have HEI := Kp.mk (HS.out.e.e i hlt)
      have HRG := Kp.mk k1
      obtain ⟨x, hx⟩ : ∃ x, x = f i := ⟨_, rfl⟩
      have HX := Kp.mk hx
      rw [← hx] at HEI HRG
      have HIX := Kp.mk (info105w HEI.out.l)
      have HLEN : Kp ((Try.prog.info? 32).map (·.size) = some (ec x.1).length) := ⟨by have := HIX.out; simpa using this⟩
      have HSZ : Kp ((ec x.1).toArray.size = 22) := ⟨by rw [List.size_toArray]; exact ec_len HEI.out.l⟩
      have HC18 : Kp ((Try.prog.info? 30).map (·.size) = some (cc x.1.lf x.1.wa x.1.wn x.1.wc x.1.pa x.1.pn x.1.pc).length) := ⟨by rw [cc_len HEI.out.l]; kernel_rfl⟩
      clear k1 hx
      obtain ⟨T, hT⟩ : ∃ T, T = wr.heap.size := ⟨_, rfl⟩
      have HTe := Kp.mk hT
      have HVT : Kp (∀ k, (Value.slice av nv cv).ownBlock = some k → k < T) := ⟨by rw [hT]; exact ownsRow_top HS.out.es.v⟩
      clear hT
      go_wp2_with (first
        | (refine wpList_load_mid rfl 32 (.tmp 10) rfl b (off + i * 22) rfl (ec x.1) _ HRG.out Try.underlying32 rfl HLEN.out ?_)
        | (refine wpList_store_row rfl 32 (.tmp 5) (.tmp 11) rfl wr.heap.size (ec x.1).toArray rfl rfl 32 _ (Blk.newAt _ rfl) HIX.out (by rw [HSZ.out]; rfl) (ec_one x.1) ?_; rw [← HTe.out]; refine wpl_world (fun W => TE w A 76 70 n (some ⟨b, off, none⟩) f (.slice av nv cv) xs W ∧ Blk W T (.cells (ec x.1).toArray 32) ∧ EIw W A x) ⟨by rw [HTe.out, World.setRow_alloc_new]; exact HS.out.more (more (Below.refl _ _) _), by rw [HTe.out, World.setRow_alloc_new]; exact Blk.new _ _, by rw [HTe.out, World.setRow_alloc_new]; exact HEI.out.keep (more (Below.refl _ _) _)⟩ ?_; rintro W6 h6; have S6 := Kp.mk h6; clear h6))
      clear HS HEI HRG
      refine wp_region_held_drew (S := fun w' => Kp (Blk w' T (.cells (ec x.1).toArray 32))) (by kernel_rfl) (⟨S6.out.2.1⟩) (fun hH => ?_)
      refine wpAnyH_take (i := 0) (oi := { dst := some 12, op := Go.Op.move (Go.Operand.tmp 3), type := 36, pos := "law.go:41", after := #[], guard := none }) (v := .slice av nv cv) rfl (by kernel_rfl) (by kernel_rfl) (by kernel_rfl) (fun _ _ _ h => h) (Or.inl ⟨by rfl, fun w hS => by first | rfl | go_simp⟩) hH ?_
      simp only [Act.put, List.setIfInBounds_toArray, List.set_cons_zero, List.set_cons_succ]
      refine wpAnyH_take (i := 1) (oi := { dst := some 13, op := Go.Op.fieldAddr 32 (Go.Operand.tmp 5) 0, type := 0, pos := "law.go:41", after := #[], guard := none }) (v := .pointer (some ⟨T, 0, none⟩)) rfl (by kernel_rfl) (by kernel_rfl) (by kernel_rfl) (fun _ _ _ h => h) (Or.inl ⟨by rfl, fun w hS => by first | rfl | go_simp⟩) hH ?_
      simp only [Act.put, List.setIfInBounds_toArray, List.set_cons_zero, List.set_cons_succ]
      refine wpAnyH_take (i := 2) (oi := { dst := some 14, op := Go.Op.load 3 (Go.Operand.tmp 13), type := 3, pos := "law.go:41", after := #[{ on := 1, ground := Go.Ground.data }], guard := none }) (v := .int .i64 x.1.d) rfl (by kernel_rfl) (by kernel_rfl) (by kernel_rfl) (fun _ _ _ h => h) (Or.inl ⟨by rfl, fun w hS => by have c1 : w.cell? ⟨T, 0, none⟩ = some (.int .i64 x.1.d) := hS.out.cell 0; go_simp⟩) hH ?_
      simp only [Act.put, List.setIfInBounds_toArray, List.set_cons_zero, List.set_cons_succ]
      refine wpAnyH_take (i := 3) (oi := { dst := some 15, op := Go.Op.fieldAddr 32 (Go.Operand.tmp 5) 1, type := 0, pos := "law.go:41", after := #[], guard := none }) (v := .pointer (some ⟨T, 1, none⟩)) rfl (by kernel_rfl) (by kernel_rfl) (by kernel_rfl) (fun _ _ _ h => h) (Or.inl ⟨by rfl, fun w hS => by first | rfl | go_simp⟩) hH ?_
      simp only [Act.put, List.setIfInBounds_toArray, List.set_cons_zero, List.set_cons_succ]
      refine wpAnyH_take (i := 4) (oi := { dst := some 16, op := Go.Op.load 26 (Go.Operand.tmp 15), type := 26, pos := "law.go:41", after := #[{ on := 3, ground := Go.Ground.data }], guard := none }) (v := .agg #[.int .u32 x.1.e, .int .u32 x.1.s, .int .i64 x.1.m]) rfl (by kernel_rfl) (by kernel_rfl) (by kernel_rfl) (fun _ _ _ h => h) (Or.inl ⟨by rfl, fun w hS => exec_load_mid (x := .tmp 15) rfl rfl (ec_key (ec_range hS.out)) Try.underlying26 rfl (by kernel_rfl)⟩) hH ?_
      simp only [Act.put, List.setIfInBounds_toArray, List.set_cons_zero, List.set_cons_succ]
      refine wpAnyH_take (i := 6) (oi := { dst := some 18, op := Go.Op.fieldAddr 32 (Go.Operand.tmp 5) 2, type := 0, pos := "law.go:41", after := #[], guard := none }) (v := .pointer (some ⟨T, 4, none⟩)) rfl (by kernel_rfl) (by kernel_rfl) (by kernel_rfl) (fun _ _ _ h => h) (Or.inl ⟨by rfl, fun w hS => by first | rfl | go_simp⟩) hH ?_
      simp only [Act.put, List.setIfInBounds_toArray, List.set_cons_zero, List.set_cons_succ]
      refine wpAnyH_take (i := 7) (oi := { dst := some 19, op := Go.Op.load 30 (Go.Operand.tmp 18), type := 30, pos := "law.go:41", after := #[{ on := 6, ground := Go.Ground.data }], guard := none }) (v := .agg (cc x.1.lf x.1.wa x.1.wn x.1.wc x.1.pa x.1.pn x.1.pc).toArray) rfl (by kernel_rfl) (by kernel_rfl) (by kernel_rfl) (fun _ _ _ h => h) (Or.inl ⟨by rfl, fun w hS => exec_load_mid (x := .tmp 18) rfl rfl (ec_cred (ec_range hS.out)) Try.underlying30 rfl HC18.out⟩) hH ?_
      simp only [Act.put, List.setIfInBounds_toArray, List.set_cons_zero, List.set_cons_succ]
      refine wpAnyH_ready (rs := [5]) (by kernel_rfl) (by simp) ?_
      refine AllReadyH.cons (o := { dst := some 17, op := Go.Op.call { callee := Go.Callee.value (Go.Operand.func 21), args := #[Go.Operand.tmp 16], argTypes := #[26] }, type := 68, pos := "law.go:41", after := #[{ on := 4, ground := Go.Ground.data }], guard := none }) rfl (fun K hK => ?_) AllReadyH.nil
      go_simp
      refine (kto_any x.1.e x.1.s x.1.m W6.drew).mono ?_
      rintro r w1 ⟨rfl, hb⟩
      have S7 : Kp (TE w A 76 70 n (some ⟨b, off, none⟩) f (.slice av nv cv) xs w1 ∧ Blk w1 T (.cells (ec x.1).toArray 32) ∧ EIw w1 A x) := ⟨(S6.out.1.more (Below.refl _ _).drew).more hb, (S6.out.2.1.keep (Below.refl _ _).drew).keep hb, (S6.out.2.2.keep (Below.refl _ _).drew).keep hb⟩
      clear hb S6
      refine hK.out _ _ (⟨S7.out.2.1⟩) (fun hHn => ?_)
      clear hK K hH
      have hH := hHn
      clear hHn
      try simp only [Act.put, List.setIfInBounds_toArray, List.set_cons_zero, List.set_cons_succ]
      refine wpAnyH_ready (rs := [8]) (by kernel_rfl) (by simp) ?_
      refine AllReadyH.cons (o := { dst := some 20, op := Go.Op.call { callee := Go.Callee.value (Go.Operand.func 22), args := #[Go.Operand.tmp 19], argTypes := #[30] }, type := 73, pos := "law.go:41", after := #[{ on := 7, ground := Go.Ground.data }, { on := 5, ground := Go.Ground.chain }], guard := none }) rfl (fun K hK => ?_) AllReadyH.nil
      go_simp
      refine (tocred_any x.1.lf x.1.wa x.1.wn x.1.wc x.1.pa x.1.pn x.1.pc x.2.1 x.2.2 w1 S7.out.2.2.l S7.out.2.2.hw S7.out.2.2.hp ⟨by have := S7.out.2.2.wn; omega, by have := S7.out.2.2.pn; omega⟩).mono ?_
      rintro r w2 ⟨a4, c4, a7, c7, rfl, h4, h7, hb⟩
      obtain ⟨z, hz⟩ : ∃ z : E3, z = (⟨x.1.d, x.1.e, x.1.s, x.1.m, x.1.lf, a4, x.1.wn, c4, a7, x.1.pn, c7⟩, x.2.1, x.2.2) := ⟨_, rfl⟩
      have HZ9 : Kp (SameE x z) := ⟨by rw [hz]; exact ⟨rfl, rfl, rfl, rfl, rfl, rfl, rfl, rfl, rfl⟩⟩
      have HZL : Kp (z.1.lf.length = 16) := ⟨by rw [hz]; exact S7.out.2.2.l⟩
      have S8 : Kp (TE w A 76 70 n (some ⟨b, off, none⟩) f (.slice av nv cv) xs w2 ∧ Blk w2 T (.cells (ec x.1).toArray 32) ∧ EOw w2 70 A z) := ⟨S7.out.1.more hb, S7.out.2.1.keep hb, by
        rw [hz]
        exact ⟨S7.out.2.2.l, S7.out.2.2.b, S7.out.2.2.hw.lenB.1, S7.out.2.2.hp.lenB.1, Nat.le_trans S7.out.2.2.wn (by decide), Nat.le_trans S7.out.2.2.pn (by decide), S7.out.2.2.hw.lenB.2, S7.out.2.2.hp.lenB.2, ownsRow_base h4 S7.out.1.le, ownsRow_base h7 S7.out.1.le⟩⟩
      have HBD : Kp (∀ w, (Instr.build 76 #[(0, .int .i64 x.1.d), (1, .agg #[.int .u32 x.1.e, .int .u32 x.1.s, .int .i64 x.1.m]), (2, .agg (cc x.1.lf a4 x.1.wn c4 a7 x.1.pn c7).toArray)]).run Try.prog w = .ok (.agg (ec z.1).toArray) w) := ⟨fun w => by rw [hz]; exact build115q S7.out.2.2.l x.1.d x.1.e x.1.s x.1.m a4 x.1.wn c4 a7 x.1.pn c7 w⟩
      clear hb h4 h7 S7 hz
      refine hK.out _ _ (⟨S8.out.2.1⟩) (fun hHn => ?_)
      clear hK K hH
      have hH := hHn
      clear hHn
      try simp only [Act.put, List.setIfInBounds_toArray, List.set_cons_zero, List.set_cons_succ]
      refine wpAnyH_take (i := 9) (oi := { dst := some 21, op := Go.Op.build 76 #[(0, Go.Operand.tmp 14), (1, Go.Operand.tmp 17), (2, Go.Operand.tmp 20)], type := 76, pos := "law.go:41", after := #[{ on := 2, ground := Go.Ground.data }, { on := 5, ground := Go.Ground.data }, { on := 8, ground := Go.Ground.data }], guard := none }) (v := .agg (ec z.1).toArray) rfl (by kernel_rfl) (by kernel_rfl) (by kernel_rfl) (fun _ _ _ h => h) (Or.inl ⟨by rfl, fun w hS => exec_build3 (x := .tmp 14) (y := .tmp 17) (z := .tmp 20) rfl rfl rfl rfl (HBD.out w)⟩) hH ?_
      simp only [Act.put, List.setIfInBounds_toArray, List.set_cons_zero, List.set_cons_succ]
      refine wpAnyH_ready (rs := [10]) (by kernel_rfl) (by simp) ?_
      refine AllReadyH.cons (o := { dst := some 22, op := Go.Op.buildSlice 36 1 #[(0, Go.Operand.tmp 21)], type := 36, pos := "law.go:41", after := #[{ on := 9, ground := Go.Ground.data }], guard := none }) rfl (fun K hK => ?_) AllReadyH.nil
      rw [if_pos (by rfl)]
      refine wp_buildSlice_one 36 1 (.tmp 21) rfl (ecV z.1) rfl _ _ (build55s HZL.out w2) ?_
      refine hK.out _ _ (⟨S8.out.2.1.keep (more (Below.refl _ _) _)⟩) (fun hHn => ?_)
      clear hK K hH
      have hH := hHn
      clear hHn
      try simp only [Act.put, List.setIfInBounds_toArray, List.set_cons_zero, List.set_cons_succ]
      refine wpAnyH_ready (rs := [11]) (by kernel_rfl) (by simp) ?_
      refine AllReadyH.cons (o := { dst := some 23, op := Go.Op.call { callee := Go.Callee.builtin Go.Builtin.append, args := #[Go.Operand.tmp 12, Go.Operand.tmp 22], argTypes := #[36, 36] }, type := 36, pos := "law.go:41", after := #[{ on := 0, ground := Go.Ground.data }, { on := 10, ground := Go.Ground.data }, { on := 8, ground := Go.Ground.chain }], guard := none }) rfl (fun K hK => ?_) AllReadyH.nil
      refine step_append_lies _ rfl (.tmp 12) (.tmp 22) 36 rfl A 76 i0 (.agg (ec x0).toArray) 22 88 Try.underlying36 hi0 hz0 hz1 hz2 rfl (by decide) (.slice av nv cv) xs.length (ecs xs) rfl (S8.out.1.es.keep (more (Below.refl _ _) _)).v ⟨w2.heap.size, 0, none⟩ 1 1 (ec z.1) rfl ?e0 ?e1 ?e2 (by decide) ?e3 ?e4 ?e5 (w2.heap.size + 1) ?e6 ?_
      case e0 => rw [ec_len HZL.out]
      case e1 => exact World.news_of_block (Blk.new w2 (.cells (ec z.1).toArray 76))
      case e2 => exact fun u hu => List.all_eq_true.1 (by simpa using ec_one z.1) u hu
      case e3 => have := HXS.out.1; have := HN.out; unfold maxLen; omega
      case e4 => have := HXS.out.1; have := HN.out; omega
      case e5 => have := S8.out.1.le; simp; omega
      case e6 => simp
      intro g capN w3 ho hg hv hlt9
      have HT3 : Kp (Blk w3 T (.cells (ec x.1).toArray 32)) := ⟨(hg.block T (by have := S8.out.2.1.lt; simp; omega) (fun e => by have := HVT.out T e.symm; omega)).trans (S8.out.2.1.keep (more (Below.refl _ _) _))⟩
      have S9 := Kp.mk (S8.out.1.app S8.out.2.2 (by decide) ho hg)
      clear ho hg hv hlt9 S8
      refine hK.out _ _ (⟨HT3.out⟩) (fun hHn => ?_)
      clear hK K hH
      have hH := hHn
      clear hHn
      try simp only [Act.put, List.setIfInBounds_toArray, List.set_cons_zero, List.set_cons_succ]
      refine wpAnyH_take (i := 12) (oi := { dst := some 3, op := Go.Op.assign (Go.Operand.tmp 23), type := 36, pos := "law.go:41", after := #[{ on := 11, ground := Go.Ground.data }, { on := 11, ground := Go.Ground.chain }, { on := 0, ground := Go.Ground.phase }, { on := 1, ground := Go.Ground.phase }, { on := 2, ground := Go.Ground.phase }, { on := 3, ground := Go.Ground.phase }, { on := 4, ground := Go.Ground.phase }, { on := 5, ground := Go.Ground.phase }, { on := 6, ground := Go.Ground.phase }, { on := 7, ground := Go.Ground.phase }, { on := 8, ground := Go.Ground.phase }, { on := 9, ground := Go.Ground.phase }, { on := 10, ground := Go.Ground.phase }, { on := 11, ground := Go.Ground.phase }], guard := none }) (v := .slice (some ⟨g, 0, none⟩) (xs.length + 1) capN) rfl (by kernel_rfl) (by kernel_rfl) (by kernel_rfl) (fun _ _ _ h => h) (Or.inl ⟨by rfl, fun w hS => by first | rfl | go_simp⟩) hH ?_
      simp only [Act.put, List.setIfInBounds_toArray, List.set_cons_zero, List.set_cons_succ]
      clear hH HT3
      refine wpAnyH_done (by kernel_rfl) ?_ _
      go_wp2_with fail
      exact ⟨⟨i + 1, _, _, _, xs ++ [z], by omega, by go_num, rfl, S9, ⟨SameRow.app HXS.out (by rw [← HX.out]; exact HZ9.out)⟩⟩, by simp [intOf]; omega⟩
    · obtain rfl : i = n := by omega
      obtain rfl : nv = i := (ownsRow_len HS.out.es.v).trans HXS.out.1
      go_wp2_with fail
      go_ret
      exact ⟨av, cv, xs, rfl, EOs.base HS.out.es (by have := HAe.out; omega), HXS.out.1, HXS.out.2, by rw [← HAe.out]; exact HS.out.below⟩
end Go.Proofs.Ytioeaknhcfkfcaa

namespace Go.Proofs.Ytioeaknhcfkfcaa
open Go.RowKit

/-- What owns a block owns one of bytes. -/
def Typed (w : World) (v : Value) : Prop := ∀ k, v.ownBlock = some k → ∃ cur, w.heap[k]? = some (.cells cur 5 (0, 0))
theorem Typed.grow {w w' : World} {v : Value} (h : Typed w v) (hb : Below w.heap.size w w') : Typed w' v := fun k hk => by
  obtain ⟨cur, hc⟩ := h k hk
  exact ⟨cur, (hb.block k (Array.getElem?_eq_some_iff.1 hc).1).trans hc⟩
/-- Bytes in a row of the call's own. -/
def HoldsT (w : World) (v : Value) (l : List Int) : Prop := HoldsB w w.heap.size v l ∧ Typed w v
theorem HoldsT.grow {w w' : World} {v : Value} {l : List Int} (h : HoldsT w v l) (hb : Below w.heap.size w w') : HoldsT w' v l := ⟨h.1.grow hb, h.2.grow hb⟩
theorem Typed.own {w : World} {B s n : Nat} {v : Value} {xs : List Value} (h : w.ownsRow B 5 s v n xs) : Typed w v := fun k hk => ownsRow_type h hk
theorem newK {w w' : World} {B s n : Nat} {u v : Value} {xs : List Value} (hu : Typed w u) (h : v = u ∨ w'.ownsRow B 5 s v n xs) (hb : Below w.heap.size w w') : Typed w' v := by
  rcases h with rfl | h
  · exact hu.grow hb
  · exact Typed.own h
set_option maxRecDepth 100000 in
set_option maxHeartbeats 4000000 in
theorem putN_good (p : PV) (tp : List Int) (w : World) (h : HoldsB w w.heap.size (.slice p.a p.n p.c) tp) (hr : rightB p = true) (hid : 0 ≤ p.id ∧ p.id ≤ 4294967295) :
    Calls Try.prog 42 #[p.v] w fun r w' => ∃ v, r = .returned (.tuple #[v, .int .i64 0]) ∧ HoldsT w' v (putM p tp) ∧ Below w.heap.size w w' := by
  have H := Kp.mk h
  have HR := Kp.mk (rightB_is hr)
  have hn : p.n = tp.length := by
    obtain ⟨a1, n1, c1, e1, e2⟩ := h.slice
    simp only [Value.slice.injEq] at e1
    omega
  have HNT : Kp (tp.length ≤ 4096) := ⟨by rw [← hn]; exact HR.out.2.2.2.2⟩
  have HID := Kp.mk hid
  have hw1 : IntKind.u64.wrap p.id = p.id := by simp [IntKind.wrap, IntKind.bits, IntKind.signed]; omega
  have hw2 : IntKind.u64.wrap p.at_ = p.at_ := by have := HR.out; simp [IntKind.wrap, IntKind.bits, IntKind.signed]; omega
  have hw3 : IntKind.u64.wrap p.many = p.many := by have := HR.out; simp [IntKind.wrap, IntKind.bits, IntKind.signed]; omega
  clear h hn hid
  go_enter Try.func42, Try.ntmps42
  go_wp2_with fail
  refine (right_any p _).mono ?_
  rintro r w1 ⟨rfl, hb⟩
  obtain ⟨F, hF⟩ : ∃ F, F = w.heap.size := ⟨_, rfl⟩
  have HFe := Kp.mk hF
  have HB1 : Kp (Below F w w1) := ⟨by rw [hF]; exact (more (Below.refl _ _) _).trans (hb.mono (by simp))⟩
  have HP1 : Kp (Blk w1 F (.cells #[.int .u32 p.id, .int .i64 p.at_, .int .i64 p.many, .slice p.a p.n p.c] 103)) := ⟨(Blk.newAt _ hF).keep hb⟩
  have HT1 : Kp (HoldsB w1 F (.slice p.a p.n p.c) tp) := ⟨by rw [hF]; exact (H.out.alloc _).keep hb⟩
  rw [← hF, hr]
  clear hb hF hr
  go_wp2_with fail
  refine (lay_any w1).mono ?_
  rintro r w2 ⟨rfl, rfl⟩
  obtain ⟨O, hO⟩ : ∃ O, O = w1.heap.size := ⟨_, rfl⟩
  have S2 : Kp (PSt w F O p tp (.slice none 0 0) [] false (w1.alloc (outObj (.slice none 0 0) false))) := ⟨by rw [hO]; exact ⟨OutIs.laid w1, HP1.out.old _, HT1.out.alloc _, HB1.out.alloc (by have := HP1.out.lt; omega) _, HP1.out.lt⟩⟩
  rw [← hO]
  clear hO HP1 HT1 HB1
  generalize w1.alloc (outObj (.slice none 0 0) false) = W2 at *
  have p0 : W2.cell? ⟨F, 0, none⟩ = some (.int .u32 p.id) := S2.out.b.cell 0
  go_wp2_with fail
  refine (u32o_any O _ _ _ p.id W2 S2.out.o HID.out.1 (by have := HID.out; omega) (by simp)).mono ?_
  rintro r w3 ⟨rfl, v3, s3⟩
  have e3 := numL_ok (l := []) (n := p.id) (k := 4) (by have := HID.out; omega)
  rw [e3.1, e3.2] at s3
  have S3 := Kp.mk (S2.out.step s3)
  clear s3 p0 e3
  have p1 : w3.cell? ⟨F, 1, none⟩ = some (.int .i64 p.at_) := S3.out.b.cell 1
  obtain ⟨L3, hL3⟩ : ∃ L3, L3 = [] ++ digs p.id 4 := ⟨_, rfl⟩
  have H3 : Kp (L3.length = 4) := ⟨by rw [hL3]; simp [digs_len]⟩
  rw [← hL3] at S3
  have HL3 := Kp.mk hL3
  clear hL3
  go_wp2_with fail
  refine (u8o_any O _ _ _ p.at_ w3 S3.out.o HR.out.2.2.1 (by have := HR.out; omega) (by rw [H3.out]; omega)).mono ?_
  rintro r w4 ⟨rfl, v4, s4⟩
  have e4 := numL_ok (l := L3) (n := p.at_) (k := 1) (by have := HR.out; omega)
  rw [e4.1, e4.2] at s4
  have S4 := Kp.mk (S3.out.step s4)
  clear s4 p1 e4
  have p2 : w4.cell? ⟨F, 2, none⟩ = some (.int .i64 p.many) := S4.out.b.cell 2
  obtain ⟨L4, hL4⟩ : ∃ L4, L4 = L3 ++ digs p.at_ 1 := ⟨_, rfl⟩
  have H4 : Kp (L4.length = 5) := ⟨by rw [hL4]; simp [digs_len, H3.out]⟩
  rw [← hL4] at S4
  have HL4 := Kp.mk hL4
  clear hL4
  go_wp2_with fail
  refine (u8o_any O _ _ _ p.many w4 S4.out.o (by have := HR.out; omega) (by have := HR.out; omega) (by rw [H4.out]; omega)).mono ?_
  rintro r w5 ⟨rfl, v5, s5⟩
  have e5 := numL_ok (l := L4) (n := p.many) (k := 1) (by have := HR.out; omega)
  rw [e5.1, e5.2] at s5
  have S5 := Kp.mk (S4.out.step s5)
  clear s5 p2 e5
  have p3 : w5.cell? ⟨F, 3, none⟩ = some (.slice p.a p.n p.c) := S5.out.b.cell 3
  obtain ⟨L5, hL5⟩ : ∃ L5, L5 = L4 ++ digs p.many 1 := ⟨_, rfl⟩
  have H5 : Kp (L5.length = 6) := ⟨by rw [hL5]; simp [digs_len, H4.out]⟩
  rw [← hL5] at S5
  have HL5 := Kp.mk hL5
  clear hL5
  go_wp2_with fail
  refine (blobo_any O F _ _ _ _ _ w5 S5.out.o S5.out.t (by have := S5.out.fo; omega) (by rw [H5.out]; omega)).mono ?_
  rintro r w6 ⟨rfl, v6, s6⟩
  have e6 : blobL' L5 tp false = putM p tp ∧ blobF' tp false = false := by
    unfold blobL' blobF' putM
    have := HNT.out
    rw [if_neg (by omega), if_neg (by decide), HL5.out, HL4.out, HL3.out]
    exact ⟨by simp, by simp; omega⟩
  rw [e6.1, e6.2] at s6
  have S6 := Kp.mk (S5.out.step s6)
  clear s6 p3 e6
  have HLN : Kp ((putM p tp).length ≤ 1000000) := ⟨by unfold putM; simp [digs_len]; have := HNT.out; omega⟩
  obtain ⟨PM, hPM⟩ : ∃ PM, PM = putM p tp := ⟨_, rfl⟩
  rw [← hPM] at S6 HLN
  have HPM := Kp.mk hPM
  clear hPM
  go_wp2_with fail
  refine (bytes_any O _ _ _ w6 S6.out.o (by have := HLN.out; omega)).mono ?_
  rintro r w7 ⟨v7, rfl, h7, hb⟩
  have HB7 : Kp (Below F w w7) := ⟨S6.out.below.trans (hb.mono (by have := S6.out.b.lt; omega))⟩
  have H7 : Kp (HoldsT w7 v7 PM) := ⟨HoldsB.ofRow S6.out.o.bytes h7, Typed.own h7⟩
  clear h7 hb
  go_wp2_with fail
  exact bodyPost_ret (results_tmp2 rfl _ _ _) rfl ⟨v7, rfl, by rw [← HPM.out]; exact H7.out, by rw [← HFe.out]; exact HB7.out⟩
set_option maxRecDepth 100000 in
set_option maxHeartbeats 4000000 in
theorem rputN_good (p : PV) (tp : List Int) (w : World) (h : HoldsB w w.heap.size (.slice p.a p.n p.c) tp) (hr : rightB p = true) (hid : 0 ≤ p.id ∧ p.id ≤ 4294967295) :
    Calls Try.prog 44 #[p.v] w fun r w' => ∃ v, r = .returned (.tuple #[v, .int .i64 0]) ∧ HoldsT w' v (putM p tp) ∧ Below w.heap.size w w' := by
  have H := Kp.mk h
  have HR := Kp.mk (rightB_is hr)
  have hn : p.n = tp.length := by
    obtain ⟨a1, n1, c1, e1, e2⟩ := h.slice
    simp only [Value.slice.injEq] at e1
    omega
  have HNT : Kp (tp.length ≤ 4096) := ⟨by rw [← hn]; exact HR.out.2.2.2.2⟩
  have HID := Kp.mk hid
  have hw1 : IntKind.u64.wrap p.id = p.id := by simp [IntKind.wrap, IntKind.bits, IntKind.signed]; omega
  have hw2 : IntKind.u64.wrap p.at_ = p.at_ := by have := HR.out; simp [IntKind.wrap, IntKind.bits, IntKind.signed]; omega
  have hw3 : IntKind.u64.wrap p.many = p.many := by have := HR.out; simp [IntKind.wrap, IntKind.bits, IntKind.signed]; omega
  obtain ⟨L3, hL3⟩ : ∃ L3, L3 = ([] : List Int) ++ digs p.id 4 := ⟨_, rfl⟩
  obtain ⟨L4, hL4⟩ : ∃ L4, L4 = L3 ++ digs p.at_ 1 := ⟨_, rfl⟩
  obtain ⟨L5, hL5⟩ : ∃ L5, L5 = L4 ++ digs p.many 1 := ⟨_, rfl⟩
  obtain ⟨PM, hPM⟩ : ∃ PM, PM = putM p tp := ⟨_, rfl⟩
  have H3 : Kp (L3.length = 4) := ⟨by rw [hL3]; simp [digs_len]⟩
  have H4 : Kp (L4.length = 5) := ⟨by rw [hL4]; simp [digs_len, H3.out]⟩
  have H5 : Kp (L5.length = 6) := ⟨by rw [hL5]; simp [digs_len, H4.out]⟩
  have ok : ∀ (l : List Int) (n : Int) (k : Nat), n < 256 ^ k → (if 256 ^ k ≤ n then l else l ++ digs n k) = l ++ digs n k ∧ numF false n k = false := fun l n k h => ⟨if_neg (by omega), by unfold numF; simp; omega⟩
  have E4 : Kp ((if 256 ^ 4 ≤ p.id then ([] : List Int) else [] ++ digs p.id 4) = L3 ∧ numF false p.id 4 = false) := ⟨by rw [hL3]; exact ok _ _ _ (by have := HID.out; omega)⟩
  have E8 : Kp ((if 256 ^ 1 ≤ p.at_ then L3 else L3 ++ digs p.at_ 1) = L4 ∧ numF false p.at_ 1 = false) := ⟨by rw [hL4]; exact ok _ _ _ (by have := HR.out; omega)⟩
  have E12 : Kp ((if 256 ^ 1 ≤ p.many then L4 else L4 ++ digs p.many 1) = L5 ∧ numF false p.many 1 = false) := ⟨by rw [hL5]; exact ok _ _ _ (by have := HR.out; omega)⟩
  have E15 : Kp ((if 4096 < tp.length then L5 else L5 ++ digs tp.length 2 ++ tp) = PM ∧ (false || decide (4096 < tp.length)) = false) := ⟨by
    have := HNT.out
    rw [if_neg (by omega), hPM, hL5, hL4, hL3]
    exact ⟨by unfold putM; simp, by simp; omega⟩⟩
  have HPM := Kp.mk hPM
  clear h hn hid ok hL3 hL4 hL5 hPM
  go_enter Try.func44, Try.ntmps44
  go_wp2_with fail
  refine (rright_any p _).mono ?_
  rintro r w1 ⟨rfl, hb⟩
  obtain ⟨F, hF⟩ : ∃ F, F = w.heap.size := ⟨_, rfl⟩
  have HFe := Kp.mk hF
  have HB1 : Kp (Below F w w1) := ⟨by rw [hF]; exact (more (Below.refl _ _) _).trans (hb.mono (by simp))⟩
  have HP1 : Kp (Blk w1 F (.cells #[.int .u32 p.id, .int .i64 p.at_, .int .i64 p.many, .slice p.a p.n p.c] 109)) := ⟨(Blk.newAt _ hF).keep hb⟩
  have HT1 : Kp (HoldsB w1 F (.slice p.a p.n p.c) tp) := ⟨by rw [hF]; exact (H.out.alloc _).keep hb⟩
  rw [← hF, hr]
  clear hb hF hr
  go_wp2_with fail
  refine wp_region_pred (fun w' => Blk w' F (.cells #[.int .u32 p.id, .int .i64 p.at_, .int .i64 p.many, .slice p.a p.n p.c] 109) ∧ HoldsB w' F (.slice p.a p.n p.c) tp ∧ Below F w w') [0, 1, 2, 3, 4, 5, 6, 7, 8, 9, 10, 11, 12, 13, 14, 15, 16] [17, 18]
    (fun ι w' v => match ι with
      | 0 => v = .agg #[.slice none 0 0, .bool false]
      | 1 => v = .pointer (some ⟨F, 0, none⟩)
      | 2 => v = .int .u32 p.id
      | 3 => v = .int .u64 p.id
      | 5 => v = .pointer (some ⟨F, 1, none⟩)
      | 6 => v = .int .i64 p.at_
      | 7 => v = .int .u64 p.at_
      | 9 => v = .pointer (some ⟨F, 2, none⟩)
      | 10 => v = .int .i64 p.many
      | 11 => v = .int .u64 p.many
      | 13 => v = .pointer (some ⟨F, 3, none⟩)
      | 14 => v = .slice p.a p.n p.c
      | 4 => ∃ u, v = routV u false ∧ HoldsT w' u L3
      | 8 => ∃ u, v = routV u false ∧ HoldsT w' u L4
      | 12 => ∃ u, v = routV u false ∧ HoldsT w' u L5
      | 15 => ∃ u, v = routV u false ∧ HoldsT w' u PM
      | 16 => HoldsT w' v PM
      | _ => v = .bool true)
    [[], [], [(1, some 8)], [(2, some 9)], [(0, some 7), (3, some 10)], [], [(5, some 12)], [(6, some 13)], [(4, some 11), (7, some 14)], [], [(9, some 16)], [(10, some 17)], [(8, some 15), (11, some 18)], [], [(13, some 20)], [(12, some 19), (14, some 21)], [(15, some 22)]]
    [(0, some 7), (1, some 8), (2, some 9), (3, some 10), (4, some 11), (5, some 12), (6, some 13), (7, some 14), (8, some 15), (9, some 16), (10, some 17), (11, some 18), (12, some 19), (13, some 20), (14, some 21), (15, some 22), (16, some 23)]
    (by kernel_rfl) (by kernel_rfl) (by kernel_rfl) (by kernel_rfl) (by kernel_rfl) (by kernel_rfl) (by decide) (by decide) (fun w1 w2 h hb => ⟨h.1.keep hb, h.2.1.keep hb, h.2.2.trans (hb.mono (Nat.le_of_lt h.1.lt))⟩) ?_ ⟨HP1.out.keep (Below.refl _ _).drew, HT1.out.keep (Below.refl _ _).drew, HB1.out.drew⟩ ?_ ?_
  · intro ι w1 w2 v h hb
    by_cases h4 : ι = 4
    · subst h4
      exact (by obtain ⟨u, e, hg⟩ := h; exact ⟨u, e, hg.grow hb⟩)
    by_cases h8 : ι = 8
    · subst h8
      exact (by obtain ⟨u, e, hg⟩ := h; exact ⟨u, e, hg.grow hb⟩)
    by_cases h12 : ι = 12
    · subst h12
      exact (by obtain ⟨u, e, hg⟩ := h; exact ⟨u, e, hg.grow hb⟩)
    by_cases h15 : ι = 15
    · subst h15
      exact (by obtain ⟨u, e, hg⟩ := h; exact ⟨u, e, hg.grow hb⟩)
    by_cases h16 : ι = 16
    · subst h16
      exact h.grow hb
    match ι, h4, h8, h12, h15, h16, h with
    | 0, _, _, _, _, _, h => exact h
    | 1, _, _, _, _, _, h => exact h
    | 2, _, _, _, _, _, h => exact h
    | 3, _, _, _, _, _, h => exact h
    | 4, g, _, _, _, _, h => exact absurd rfl g
    | 5, _, _, _, _, _, h => exact h
    | 6, _, _, _, _, _, h => exact h
    | 7, _, _, _, _, _, h => exact h
    | 8, _, g, _, _, _, h => exact absurd rfl g
    | 9, _, _, _, _, _, h => exact h
    | 10, _, _, _, _, _, h => exact h
    | 11, _, _, _, _, _, h => exact h
    | 12, _, _, g, _, _, h => exact absurd rfl g
    | 13, _, _, _, _, _, h => exact h
    | 14, _, _, _, _, _, h => exact h
    | 15, _, _, _, g, _, h => exact absurd rfl g
    | 16, _, _, _, _, g, h => exact absurd rfl g
    | _ + 17, _, _, _, _, _, h => exact h
  · refine ⟨fun γ wx hS h => ?_, fun γ wx hS h => ?_, fun γ wx hS h => ?_, fun γ wx hS h => ?_, fun γ wx hS h => ?_, fun γ wx hS h => ?_, fun γ wx hS h => ?_, fun γ wx hS h => ?_, fun γ wx hS h => ?_, fun γ wx hS h => ?_, fun γ wx hS h => ?_, fun γ wx hS h => ?_, fun γ wx hS h => ?_, fun γ wx hS h => ?_, fun γ wx hS h => ?_, fun γ wx hS h => ?_, fun γ wx hS h => ?_, trivial⟩
    · refine ⟨_, rfl, ?_⟩
      refine predOp_val (v := .agg #[.slice none 0 0, .bool false]) ?_ ?_ ?_
      · kernel_rfl
      · simp only [putE]
        go_simp
      · rfl
    · refine ⟨_, rfl, ?_⟩
      refine predOp_val (v := .pointer (some ⟨F, 0, none⟩)) ?_ ?_ ?_
      · kernel_rfl
      · simp only [putE]
        go_simp
      · rfl
    · have h1 := h
      have e1 : γ 1 = .pointer (some ⟨F, 0, none⟩) := h1
      have hcell : wx.cell? ⟨F, 0, none⟩ = some (.int .u32 p.id) := hS.1.cell 0
      refine ⟨_, rfl, ?_⟩
      refine predOp_val (v := .int .u32 p.id) ?_ ?_ ?_
      · kernel_rfl
      · simp only [putE, e1]
        go_simp
      · rfl
    · have h2 := h
      have e2 : γ 2 = .int .u32 p.id := h2
      have hq := hw1
      refine ⟨_, rfl, ?_⟩
      refine predOp_val (v := .int .u64 p.id) ?_ ?_ ?_
      · kernel_rfl
      · simp only [putE, e2]
        go_simp
      · rfl
    · obtain ⟨h0, h3⟩ := h
      have e0 : γ 0 = .agg #[.slice none 0 0, .bool false] := h0
      have e3 : γ 3 = .int .u64 p.id := h3
      refine ⟨_, rfl, Or.inl ⟨rfl, predRun_call (f := 46) (args := #[routV (.slice none 0 0) false, .int .u64 p.id, .int .i64 (4 : Nat)]) (by simp only [putE, e0, e3]; go_simp) ?_⟩⟩
      exact (rnum_any _ (.slice none 0 0) _ false p.id 4 wx (HoldsB.nil _ _) (Nat.le_refl _) HID.out.1 (by have := HID.out; omega) (by decide) (by decide)).mono fun r w9 ⟨v', h1, h2, h3, h4⟩ => ⟨_, h1, ⟨v', by rw [E4.out.2], by rw [← E4.out.1]; exact ⟨h2, newK (w := wx) (u := .slice none 0 0) (fun k hk => by cases hk) h3 h4⟩⟩, h4⟩
    · refine ⟨_, rfl, ?_⟩
      refine predOp_val (v := .pointer (some ⟨F, 1, none⟩)) ?_ ?_ ?_
      · kernel_rfl
      · simp only [putE]
        go_simp
      · rfl
    · have h5 := h
      have e5 : γ 5 = .pointer (some ⟨F, 1, none⟩) := h5
      have hcell : wx.cell? ⟨F, 1, none⟩ = some (.int .i64 p.at_) := hS.1.cell 1
      refine ⟨_, rfl, ?_⟩
      refine predOp_val (v := .int .i64 p.at_) ?_ ?_ ?_
      · kernel_rfl
      · simp only [putE, e5]
        go_simp
      · rfl
    · have h6 := h
      have e6 : γ 6 = .int .i64 p.at_ := h6
      have hq := hw2
      refine ⟨_, rfl, ?_⟩
      refine predOp_val (v := .int .u64 p.at_) ?_ ?_ ?_
      · kernel_rfl
      · simp only [putE, e6]
        go_simp
      · rfl
    · obtain ⟨h4, h7⟩ := h
      have p4 : ∃ u, (γ 4) = routV u false ∧ HoldsT wx u L3 := h4
      have e7 : γ 7 = .int .u64 p.at_ := h7
      obtain ⟨u, e4, hu⟩ := p4
      refine ⟨_, rfl, Or.inl ⟨rfl, predRun_call (f := 46) (args := #[routV u false, .int .u64 p.at_, .int .i64 (1 : Nat)]) (by simp only [putE, e7]; go_simp) ?_⟩⟩
      exact (rnum_any _ u _ false p.at_ 1 wx hu.1 (Nat.le_refl _) HR.out.2.2.1 (by have := HR.out; omega) (by decide) (by rw [H3.out]; decide)).mono fun r w9 ⟨v', h1, h2, h3, h4⟩ => ⟨_, h1, ⟨v', by rw [E8.out.2], by rw [← E8.out.1]; exact ⟨h2, newK hu.2 h3 h4⟩⟩, h4⟩
    · refine ⟨_, rfl, ?_⟩
      refine predOp_val (v := .pointer (some ⟨F, 2, none⟩)) ?_ ?_ ?_
      · kernel_rfl
      · simp only [putE]
        go_simp
      · rfl
    · have h9 := h
      have e9 : γ 9 = .pointer (some ⟨F, 2, none⟩) := h9
      have hcell : wx.cell? ⟨F, 2, none⟩ = some (.int .i64 p.many) := hS.1.cell 2
      refine ⟨_, rfl, ?_⟩
      refine predOp_val (v := .int .i64 p.many) ?_ ?_ ?_
      · kernel_rfl
      · simp only [putE, e9]
        go_simp
      · rfl
    · have h10 := h
      have e10 : γ 10 = .int .i64 p.many := h10
      have hq := hw3
      refine ⟨_, rfl, ?_⟩
      refine predOp_val (v := .int .u64 p.many) ?_ ?_ ?_
      · kernel_rfl
      · simp only [putE, e10]
        go_simp
      · rfl
    · obtain ⟨h8, h11⟩ := h
      have p8 : ∃ u, (γ 8) = routV u false ∧ HoldsT wx u L4 := h8
      have e11 : γ 11 = .int .u64 p.many := h11
      obtain ⟨u, e8, hu⟩ := p8
      refine ⟨_, rfl, Or.inl ⟨rfl, predRun_call (f := 46) (args := #[routV u false, .int .u64 p.many, .int .i64 (1 : Nat)]) (by simp only [putE, e11]; go_simp) ?_⟩⟩
      exact (rnum_any _ u _ false p.many 1 wx hu.1 (Nat.le_refl _) (by have := HR.out; omega) (by have := HR.out; omega) (by decide) (by rw [H4.out]; decide)).mono fun r w9 ⟨v', h1, h2, h3, h4⟩ => ⟨_, h1, ⟨v', by rw [E12.out.2], by rw [← E12.out.1]; exact ⟨h2, newK hu.2 h3 h4⟩⟩, h4⟩
    · refine ⟨_, rfl, ?_⟩
      refine predOp_val (v := .pointer (some ⟨F, 3, none⟩)) ?_ ?_ ?_
      · kernel_rfl
      · simp only [putE]
        go_simp
      · rfl
    · have h13 := h
      have e13 : γ 13 = .pointer (some ⟨F, 3, none⟩) := h13
      have hcell : wx.cell? ⟨F, 3, none⟩ = some (.slice p.a p.n p.c) := hS.1.cell 3
      refine ⟨_, rfl, ?_⟩
      refine predOp_val (v := .slice p.a p.n p.c) ?_ ?_ ?_
      · kernel_rfl
      · simp only [putE, e13]
        go_simp
      · rfl
    · obtain ⟨h12, h14⟩ := h
      have p12 : ∃ u, (γ 12) = routV u false ∧ HoldsT wx u L5 := h12
      have e14 : γ 14 = .slice p.a p.n p.c := h14
      obtain ⟨u, e12, hu⟩ := p12
      refine ⟨_, rfl, Or.inl ⟨rfl, predRun_call (f := 67) (args := #[routV u false, .slice p.a p.n p.c]) (by simp only [putE, e14]; go_simp) ?_⟩⟩
      exact (roblob_any wx.heap.size u _ L5 tp false wx hu.1 (hS.2.1.mono (Nat.le_of_lt hS.1.lt)) (Nat.le_refl _) (by rw [H5.out]; decide)).mono fun r w9 ⟨v', h1, h2, h3, h4⟩ => ⟨_, h1, ⟨v', by rw [E15.out.2], by rw [← E15.out.1]; exact ⟨h2, newK hu.2 h3 h4⟩⟩, h4⟩
    · have h15 := h
      have p15 : ∃ u, (γ 15) = routV u false ∧ HoldsT wx u PM := h15
      obtain ⟨u, e15, hu⟩ := p15
      refine ⟨_, rfl, ?_⟩
      refine predOp_val (v := u) ?_ ?_ ?_
      · kernel_rfl
      · have hf : (Instr.field 112 (routV u false) 0).run Try.prog wx = .ok u wx := by rfl
        simp only [putE, e15]
        go_simp
      · exact hu
  · intro γ w9 hS h
    have h16 : HoldsT w9 (γ 16) PM := h.2.2.2.2.2.2.2.2.2.2.2.2.2.2.2.2
    simp only [putE, Act.put, List.setIfInBounds_toArray, List.set_cons_zero, List.set_cons_succ]
    have HV := Kp.mk h16
    have HS3 := Kp.mk hS.2.2
    clear h hS h16
    generalize γ 16 = vv at *
    obtain ⟨va, vn, vc, rfl, -⟩ := HV.out.1.slice
    refine wpOps_step rfl rfl ?_
    go_simp
    refine wpOps_step rfl rfl ?_
    go_simp
    refine wpOps_done ?_
    go_wp2_with fail
    exact bodyPost_ret (results_tmp2 rfl _ _ _) rfl ⟨_, rfl, by rw [← HPM.out]; exact HV.out, by rw [← HFe.out]; exact HS3.out⟩
end Go.Proofs.Ytioeaknhcfkfcaa

namespace Go.Proofs.Ytioeaknhcfkfcaa
open Go.RowKit

structure BdV where
  k : Int
  v : Value
  l : List Int
def bdc (x : BdV) : List Value := [.int .i64 x.k, x.v]
theorem bdc_len (L : List BdV) : (L.flatMap bdc).length = L.length * 2 := by
  induction L with
  | nil => rfl
  | cons x t ih => rw [List.flatMap_cons, List.length_append, ih]; simp [bdc]; omega
theorem bdc_snoc (L : List BdV) (x : BdV) : L.flatMap bdc ++ [.int .i64 x.k, x.v] = (L ++ [x]).flatMap bdc := by simp [bdc]
def pieceT (id : Int) (all : List Int) (sz m k : Nat) : List Int := putM ⟨id, k, m, none, 0, 0⟩ (pieceL all sz k)
def pieceTs (id : Int) (all : List Int) (sz m i : Nat) : List (Int × List Int) := (List.range i).map fun k => (4, pieceT id all sz m k)
theorem pieceTs_snoc (id : Int) (all : List Int) (sz m i : Nat) : pieceTs id all sz m (i + 1) = pieceTs id all sz m i ++ [(4, pieceT id all sz m i)] := by simp [pieceTs, List.range_succ]
def okB (kind most : Int) : Bool := decide (1 ≤ kind ∧ kind ≤ 3 ∧ 16 ≤ most ∧ most ≤ 4096)
def bodE (kind : Int) (bl : List Int) (most : Int) : Int :=
  if okB kind most = false then 1 else if (bl.length : Int) ≤ most then 0 else if 16384 < bl.length + 1 then 1 else if 32 < manyN (bl.length + 1) (most - 8).toNat then 8 else 0
def bodL (kind id : Int) (bl : List Int) (most : Int) : List (Int × List Int) :=
  if bodE kind bl most ≠ 0 then [] else if (bl.length : Int) ≤ most then [(kind, bl)] else pieceTs id (kind :: bl) (most - 8).toNat (manyN (bl.length + 1) (most - 8).toNat) (manyN (bl.length + 1) (most - 8).toNat)
/-- What Bodies answers: a row of bodies in new memory (elements of type e), and an error. -/
def BodPost (e : TypeId) (bs : List (Int × List Int)) (err : Int) (w : World) (r : Ending) (w' : World) : Prop :=
  ∃ v L, r = .returned (.tuple #[v, .int .i64 err]) ∧ Below w.heap.size w w' ∧ w'.ownsRow w.heap.size e 2 v (List.length L) (L.flatMap bdc) ∧ (∀ x ∈ L, HoldsB w' w'.heap.size x.v x.l) ∧ L.map (fun x => (x.k, x.l)) = bs
theorem BodPost.none {e : TypeId} {err : Int} {w w' : World} (hb : Below w.heap.size w w') : BodPost e [] err w (.returned (.tuple #[.slice none 0 0, .int .i64 err])) w' :=
  ⟨_, [], rfl, hb, World.ownsRow_nil _ _ _ _, (fun x hx => by cases hx), rfl⟩
def wholeB (k : Int) : Bool := decide (1 ≤ k ∧ k ≤ 3)
set_option maxHeartbeats 800000 in
theorem isWhole_any (k : Int) (w : World) : Calls Try.prog 39 #[.int .i64 k] w fun r w' => r = .returned (.bool (wholeB k)) ∧ w = w' := by
  by_cases h1 : k = 1
  · subst h1
    go_enter Try.func39, Try.ntmps39
    go_wp2_with fail
    go_ret
    exact ⟨rfl, rfl⟩
  by_cases h2 : k = 2
  · subst h2
    go_enter Try.func39, Try.ntmps39
    go_wp2_with fail
    go_ret
    exact ⟨rfl, rfl⟩
  by_cases h3 : k = 3
  · subst h3
    go_enter Try.func39, Try.ntmps39
    go_wp2_with fail
    go_ret
    exact ⟨rfl, rfl⟩
  have H : Kp (wholeB k = false) := ⟨by simp [wholeB]; omega⟩
  have e1 : (k == 1) = false := by simp [h1]
  have e2 : (k == 2) = false := by simp [h2]
  have e3 : (k == 3) = false := by simp [h3]
  clear h1 h2 h3
  go_enter Try.func39, Try.ntmps39
  go_wp2_with fail
  go_ret
  exact ⟨retb H.out.symm, rfl⟩
theorem info59' : (Try.prog.info? 59).map (fun i => (i.zero, i.size, i.bytes)) = some (some (.agg #[.int .i64 0, .slice none 0 0]), 2, 32) := by kernel_rfl
theorem info60' : (Try.prog.info? 60).map (fun i => (i.zero, i.size, i.bytes)) = some (some (.agg #[.int .i64 0, .slice none 0 0]), 2, 32) := by kernel_rfl
theorem pieceL_len {bl : List Int} {sz k : Nat} : (pieceL bl sz k).length ≤ sz := by
  unfold pieceL
  rw [List.length_drop, List.length_take, Nat.succ_mul]
  omega
theorem ownsRow_two {w : World} {B g : Nat} {e : TypeId} {x y : Value} (hB : B ≤ g) (h : Blk w g (.cells #[x, y] e)) : w.ownsRow B e 2 (.slice (some ⟨g, 0, none⟩) 1 1) 1 [x, y] :=
  ⟨rfl, .inr ⟨g, 1, #[x, y], rfl, hB, h, Nat.le_refl _, by unfold maxLen; omega, rfl, rfl⟩⟩
theorem ownsRow_oneB {w : World} {B g : Nat} {x : Int} (hB : B ≤ g) (h : Blk w g (.cells #[.int .u8 x] 5)) : w.ownsRow B 5 1 (.slice (some ⟨g, 0, none⟩) 1 1) 1 (bv [x]) :=
  ⟨rfl, .inr ⟨g, 1, _, rfl, hB, h, Nat.le_refl _, by unfold maxLen; omega, rfl, rfl⟩⟩
/-- A row of other elements grows: rows of bytes stay. -/
theorem HoldsT.grown {w w' : World} {B e s n : Nat} {v u : Value} {xs : List Value} {l : List Int} (h : HoldsT w v l) (ho : w.ownsRow B e s u n xs) (hne : e ≠ 5) (hg : w.grownBy w' u.ownBlock) : HoldsT w' v l := by
  have key : ∀ k, v.ownBlock = some k → w'.heap[k]? = w.heap[k]? := fun k hk => by
    obtain ⟨cur, hc⟩ := h.2 k hk
    refine hg.block k (Array.getElem?_eq_some_iff.1 hc).1 fun e2 => ?_
    obtain ⟨c2, hc2⟩ := ownsRow_type ho e2.symm
    rw [hc] at hc2
    injection hc2 with e3
    injection e3 with _ e4
    exact hne e4.symm
  refine ⟨?_, fun k hk => by obtain ⟨cur, hc⟩ := h.2 k hk; exact ⟨cur, (key k hk).trans hc⟩⟩
  obtain ⟨a, cap, h1, h2, h3, h4, h5, h6, h7⟩ := h.1
  refine ⟨a, cap, h1, h2, h3, h4, fun x hx h0 => ?_, fun x i hx hi => ?_, h7⟩
  · obtain ⟨q1, q2, q3⟩ := h5 x hx h0
    exact ⟨q1, Nat.lt_of_lt_of_le q3 hg.size, Nat.lt_of_lt_of_le q3 hg.size⟩
  · rw [← h6 x i hx hi]
    exact World.cell?_of_block (a := ⟨x.block, x.off + i, none⟩) (key x.block (by rw [h1, hx]; rfl))
set_option maxRecDepth 100000 in
set_option maxHeartbeats 6400000 in
theorem bodies_any (kind id most : Int) (v : Value) (bl : List Int) (w : World) (h : HoldsB w w.heap.size v bl) (hl : bl.length ≤ 20000) (hid : 0 ≤ id ∧ id ≤ 4294967295) :
    Calls Try.prog 15 #[.int .i64 kind, .int .u32 id, v, .int .i64 most] w (BodPost 59 (bodL kind id bl most) (bodE kind bl most) w) := by
  have H := Kp.mk h
  obtain ⟨a, n, cap, rfl, hn⟩ := h.slice
  have HN := Kp.mk hn
  have hn2 : n ≤ 20000 := by omega
  have HID := Kp.mk hid
  clear h hl hn hid
  cases hok : okB kind most with
  | false =>
    have HE : Kp (bodE kind bl most = 1 ∧ bodL kind id bl most = []) := ⟨by
      have e : bodE kind bl most = 1 := by unfold bodE; rw [if_pos hok]
      exact ⟨e, by unfold bodL; rw [e]; rfl⟩⟩
    have hc : (wholeB kind = false) ∨ (wholeB kind = true ∧ most < 16) ∨ (wholeB kind = true ∧ ¬ most < 16 ∧ 4096 < most) := by
      simp [okB, wholeB] at hok ⊢; omega
    clear hok
    rcases hc with h1 | ⟨h1, h2⟩ | ⟨h1, h2, h3⟩
    all_goals
      have HW := Kp.mk h1
      clear h1
      go_enter Try.func15, Try.ntmps15
      go_wp2_with fail
      refine (isWhole_any kind _).mono ?_
      rintro r w1 ⟨rfl, rfl⟩
      rw [HW.out]
      go_wp2_with fail
      refine bodyPost_ret (results_tmp2 rfl _ _ _) rfl ?_
      rw [HE.out.1, HE.out.2]
      exact BodPost.none (Below.refl _ _)
  | true =>
    have hk : 1 ≤ kind ∧ kind ≤ 3 ∧ 16 ≤ most ∧ most ≤ 4096 := by simpa [okB] using hok
    have HK := Kp.mk hk
    have HW : Kp (wholeB kind = true) := ⟨by simp [wholeB]; omega⟩
    have h16 : ¬ most < 16 := by omega
    have h40 : ¬ 4096 < most := by omega
    by_cases hs : (n : Int) ≤ most
    · have HE : Kp (bodE kind bl most = 0 ∧ bodL kind id bl most = [(kind, bl)]) := ⟨by
        have e : bodE kind bl most = 0 := by unfold bodE; rw [if_neg (by rw [hok]; simp), if_pos (by rw [← HN.out]; exact hs)]
        exact ⟨e, by unfold bodL; rw [e, if_neg (by simp), if_pos (by rw [← HN.out]; exact hs)]⟩⟩
      clear hok hk
      go_enter Try.func15, Try.ntmps15
      go_wp2_with fail
      refine (isWhole_any kind _).mono ?_
      rintro r w1 ⟨rfl, rfl⟩
      rw [HW.out]
      go_wp2_with fail
      refine (clone_any _ _ bl _ H.out (by rw [← HN.out]; omega)).mono ?_
      rintro r w2 ⟨v', rfl, ho, hb⟩
      have HO := Kp.mk (HoldsB.ofRow H.out.bytes ho)
      have E := Kp.mk hb
      clear ho hb
      obtain ⟨va, vn, vc, rfl, -⟩ := HO.out.slice
      go_wp2_with fail
      refine bodyPost_ret (results_tmp2 rfl _ _ _) rfl ?_
      rw [HE.out.1, HE.out.2]
      exact ⟨_, [⟨kind, .slice va vn vc, bl⟩], rfl, more E.out _, ownsRow_two E.out.size (Blk.new _ _), (fun x hx => by simp at hx; subst hx; exact HO.out.grow (more (Below.refl _ _) _)), rfl⟩
    · have hkw : IntKind.u8.wrap kind = kind := by rw [IntKind.wrap_u8']; omega
      obtain ⟨sz, hsz⟩ : ∃ sz : Nat, sz = (most - 8).toNat := ⟨_, rfl⟩
      have hszi : most - 8 = (sz : Int) := by omega
      have HSZ : Kp (sz = (most - 8).toNat ∧ 8 ≤ sz ∧ sz ≤ 4088) := ⟨hsz, by omega, by omega⟩
      obtain ⟨m, hm⟩ : ∃ m, m = manyN (n + 1) sz := ⟨_, rfl⟩
      have HE : Kp (bodE kind bl most = (if 16384 < n + 1 then 1 else if 32 < m then 8 else 0)) := ⟨by
        unfold bodE; rw [if_neg (by rw [hok]; simp), if_neg (by rw [← HN.out]; exact hs), ← HN.out, ← hsz, ← hm]⟩
      have HL : Kp (bodE kind bl most = 0 → bodL kind id bl most = pieceTs id (kind :: bl) sz m m) := ⟨fun e => by
        unfold bodL; rw [if_neg (by rw [e]; simp), if_neg (by rw [← HN.out]; exact hs), ← HN.out, ← hsz, ← hm]⟩
      have HL0 : Kp (bodE kind bl most ≠ 0 → bodL kind id bl most = []) := ⟨fun e => by unfold bodL; rw [if_pos e]⟩
      have HM := Kp.mk hm
      have HLA : Kp ((kind :: bl).length = n + 1) := ⟨by simp [HN.out]⟩
      have HBA : Kp (Bytes (kind :: bl)) := ⟨fun x hx => by
        rcases List.mem_cons.1 hx with rfl | hx
        · have := HK.out; omega
        · exact H.out.bytes x hx⟩
      obtain ⟨A, hA⟩ : ∃ A, A = w.heap.size := ⟨_, rfl⟩
      have HAe := Kp.mk hA
      obtain ⟨i0, hi0, hz0, hz1, hz2⟩ := info_parts info59'
      clear hok hk hsz hm hA
      go_enter Try.func15, Try.ntmps15
      go_wp2_with fail
      refine (isWhole_any kind _).mono ?_
      rintro r w1 ⟨rfl, rfl⟩
      rw [HW.out]
      have HROW : Kp ((w.alloc (.cells #[.int .u8 kind] 5)).ownsRow A 5 1 (.slice (some ⟨w.heap.size, 0, none⟩) 1 1) 1 (bv [kind])) := ⟨ownsRow_oneB (by rw [HAe.out]; exact Nat.le_refl _) (Blk.new _ _)⟩
      have H2 := Kp.mk (H.out.alloc (.cells #[.int .u8 kind] 5))
      go_wp2_with (at_builtin; refine wpList_append_holds rfl (.tmp 41) (.tmp 42) rfl A _ 1 (bv [kind]) rfl HROW.out w.heap.size _ bl rfl H2.out ?a1 ?a2 ?_)
      case a1 => rw [← HN.out]; omega
      case a2 => rw [HAe.out]; simp
      · intro v' w2 ho hg
        have E2 : Kp (Below A w w2) := ⟨below_row_grown (by rw [HAe.out]; exact more (Below.refl _ _) _) (by rw [HAe.out]; simp) HROW.out hg⟩
        have Z2 : Kp (A ≤ w2.heap.size) := ⟨by have h8 := hg.size; rw [HAe.out]; simp at h8; omega⟩
        have HX : Kp (HoldsB w2 w2.heap.size v' (kind :: bl)) := ⟨HoldsB.ofRow HBA.out (by rw [HLA.out]; have h9 := ho; rw [← HN.out, Nat.add_comm 1 n] at h9; exact h9)⟩
        clear ho hg HROW H2
        obtain ⟨xa, xn, xc, rfl, hxn⟩ := HX.out.slice
        rw [HLA.out] at hxn
        subst hxn
        have hmo : (most : Int) - 8 ≤ 4096 := by omega
        by_cases hb1 : 16384 < n + 1
        · have HE1 : Kp (bodE kind bl most = 1) := ⟨by rw [HE.out, if_pos hb1]⟩
          go_wp2_with fail
          refine (split_bad id sz xa (n + 1) xc _ (by omega) (.inr (.inr hb1))).mono ?_
          rintro r w3 ⟨rfl, rfl⟩
          go_wp2_with fail
          refine bodyPost_ret (results_tmp2 rfl _ _ _) rfl ?_
          rw [HL0.out (by rw [HE1.out]; decide), HE1.out]
          exact BodPost.none (by rw [← HAe.out]; exact E2.out)
        · by_cases hb2 : 32 < m
          · have HE1 : Kp (bodE kind bl most = 8) := ⟨by rw [HE.out, if_neg hb1, if_pos hb2]⟩
            go_wp2_with fail
            refine (split_many id sz (n + 1) xa xc _ (by have := HSZ.out; omega) (by omega) (by rw [← HM.out]; exact hb2)).mono ?_
            rintro r w3 ⟨rfl, rfl⟩
            go_wp2_with fail
            refine bodyPost_ret (results_tmp2 rfl _ _ _) rfl ?_
            rw [HL0.out (by rw [HE1.out]; decide), HE1.out]
            exact BodPost.none (by rw [← HAe.out]; exact E2.out)
          · have HE1 : Kp (bodE kind bl most = 0) := ⟨by rw [HE.out, if_neg hb1, if_neg hb2]⟩
            have hms := manyN_is (n := n + 1) (sz := sz) (by have := HSZ.out; omega)
            rw [← HM.out] at hms
            have HSP := Kp.mk (split_any id sz m _ (kind :: bl) _ HX.out (by have := HSZ.out; omega) (by rw [HLA.out]; omega) (by rw [HLA.out]; exact hms) (by omega) (fun k hk => by rw [HLA.out]; exact manyN_lt (by rw [← HM.out]; exact hk)))
            have HM32 : Kp (m ≤ 32) := ⟨by omega⟩
            clear hms hb1 hb2
            go_wp2_with fail
            refine HSP.out.mono ?_
            rintro r w3 ⟨Q, l, rfl, hQ, hb, hP, hlm, hall⟩
            have E3 : Kp (Below A w w3) := ⟨E2.out.trans (hb.mono Z2.out)⟩
            have Z3 : Kp (A ≤ w3.heap.size) := ⟨Nat.le_trans Z2.out hb.size⟩
            have HP := Kp.mk hP
            have HALL := Kp.mk hall
            have HLM := Kp.mk hlm
            obtain ⟨S, hS⟩ : ∃ S, S = w3.heap.size := ⟨_, rfl⟩
            have HSe := Kp.mk hS
            have hm9 : m ≤ 9223372036854775807 := by have := HM32.out; omega
            clear hQ hb hP hall hlm HX HSP E2 Z2 hS
            go_wp2_with fail
            go_loopw [12, 54] (fun v c wr => ∃ (i : Nat) (L : List BdV), i ≤ m ∧ c = .int .i64 i ∧ Kp (L.length = i) ∧ Kp (wr.ownsRow S 59 2 v i (L.flatMap bdc)) ∧ Kp (∀ x ∈ L, HoldsT wr x.v x.l) ∧ Kp (L.map (fun x => (x.k, x.l)) = pieceTs id (kind :: bl) sz m i) ∧ Kp (Below S w3 wr)) (fun _ c _ => m - (intOf c).toNat)
            case atStart => exact ⟨0, [], by omega, rfl, ⟨rfl⟩, ⟨World.ownsRow_nil _ _ _ _⟩, ⟨fun x hx => by cases hx⟩, ⟨rfl⟩, ⟨Below.refl _ _⟩⟩
            case round =>
              obtain ⟨i, L, hi, rfl, HLL, HO, HT, HMP, F0⟩ := hrel
              by_cases hlt : i < m
              · have t1 : (i : Int) < m := by omega
                have HLT := Kp.mk hlt
                have hPi := PRow.piece (HP.out.keep (by rw [← HSe.out]; exact F0.out)) HALL.out (k := i) (by rw [HLM.out]; exact hlt)
                obtain ⟨pa, pc, hr, hH⟩ := hPi
                have HR := Kp.mk hr
                have HH := Kp.mk hH
                have HPL : Kp ((pieceL (kind :: bl) sz i).length ≤ 4096) := ⟨by have := pieceL_len (bl := kind :: bl) (sz := sz) (k := i); have := HSZ.out; omega⟩
                obtain ⟨pl, hpl⟩ : ∃ pl, pl = (pieceL (kind :: bl) sz i).length := ⟨_, rfl⟩
                rw [← hpl] at HR HH HPL
                clear hr hH hpl hlt
                go_wp2_with (refine wpList_load_mid rfl 103 (.tmp 56) rfl Q (i * 4) rfl [.int .u32 id, .int .i64 i, .int .i64 m, .slice pa pl pc] _ HR.out Try.underlying103 rfl (by kernel_rfl) ?_)
                refine (putN_good ⟨id, i, m, pa, pl, pc⟩ (pieceL (kind :: bl) sz i) _ (HH.out.grow (more (Below.refl _ _) _)) (by unfold rightB; have := HM32.out; have := HPL.out; simp; omega) HID.out).mono ?_
                rintro r w4 ⟨v', rfl, hT, hb⟩
                have F1 : Kp (Below S w3 w4) := ⟨F0.out.trans ((more (Below.refl _ _) _ : Below wr.heap.size wr (wr.alloc _)).mono (by rw [HSe.out]; exact F0.out.size)) |>.trans (hb.mono (by rw [HSe.out]; have := F0.out.size; simp; omega))⟩
                have Z1 : Kp (S ≤ w4.heap.size) := ⟨by rw [HSe.out]; exact F1.out.size⟩
                have HW1 : Kp (Below wr.heap.size wr w4) := ⟨(more (Below.refl _ _) _).trans (hb.mono (by simp))⟩
                have HO1 := Kp.mk (ownsRow_below HO.out HW1.out)
                have HT1 : Kp (∀ x ∈ L, HoldsT w4 x.v x.l) := ⟨fun x hx => (HT.out x hx).grow HW1.out⟩
                have HN1 : Kp (HoldsT w4 v' (pieceT id (kind :: bl) sz m i)) := ⟨hT⟩
                clear hT hb HO HT HW1 F0 HR HH
                obtain ⟨va, vn, vc, rfl, -⟩ := HN1.out.1.slice
                go_wp2_with (at_builtin; refine wpList_append_own _ rfl _ _ 52 rfl S 59 i0 (.agg #[.int .i64 0, .slice none 0 0]) 2 32 Try.underlying52 hi0 hz0 hz1 hz2 rfl (by decide) _ i (L.flatMap bdc) rfl (HO1.out.alloc _) ⟨w4.heap.size, 0, none⟩ 1 1 [.int .i64 4, .slice va vn vc] rfl rfl ?c1 ?c2 ?c3 ?c4 ?c5 ?_)
                case c1 =>
                  intro j u hj
                  match j, hj with
                  | 0, hj => simp at hj; subst hj; simp [Addr.add]
                  | 1, hj => simp at hj; subst hj; simp [Addr.add]
                case c2 =>
                  intro u hu
                  simp at hu
                  rcases hu with rfl | rfl <;> rfl
                case c3 => have := HM32.out; have := HLT.out; unfold maxLen; omega
                case c4 => have := HM32.out; have := HLT.out; omega
                case c5 => have := Z1.out; simp; omega
                · intro v' w5 hown' hgrow _
                  have HA5 : Kp (∀ x ∈ L ++ [(⟨4, .slice va vn vc, pieceT id (kind :: bl) sz m i⟩ : BdV)], HoldsT w5 x.v x.l) := ⟨fun x hx => by
                    have hx4 : HoldsT (w4.alloc (.cells #[.int .i64 4, .slice va vn vc] 59)) x.v x.l := by
                      rcases List.mem_append.1 hx with hx | hx
                      · exact (HT1.out x hx).grow (more (Below.refl _ _) _)
                      · simp at hx; subst hx; exact HN1.out.grow (more (Below.refl _ _) _)
                    exact hx4.grown (HO1.out.alloc _) (by decide) hgrow⟩
                  have F5 : Kp (Below S w3 w5) := ⟨below_row_grown (F1.out.alloc Z1.out _) (by have := Z1.out; simp; omega) (HO1.out.alloc _) hgrow⟩
                  have HO5 : Kp (w5.ownsRow S 59 2 v' (i + 1) ((L ++ [(⟨4, .slice va vn vc, pieceT id (kind :: bl) sz m i⟩ : BdV)]).flatMap bdc)) := ⟨by rw [← bdc_snoc]; exact hown'⟩
                  have HM5 : Kp ((L ++ [(⟨4, .slice va vn vc, pieceT id (kind :: bl) sz m i⟩ : BdV)]).map (fun x => (x.k, x.l)) = pieceTs id (kind :: bl) sz m (i + 1)) := ⟨by rw [List.map_append, HMP.out, pieceTs_snoc]; rfl⟩
                  clear hown' hgrow
                  go_wp2_with fail
                  exact ⟨⟨i + 1, _, by have := HLT.out; omega, by go_num, ⟨by rw [List.length_append, HLL.out]; rfl⟩, HO5, HA5, HM5, F5⟩, by have := HLT.out; simp [intOf]; omega⟩
              · obtain rfl : i = m := by omega
                go_wp2_with fail
                refine bodyPost_ret (results_tmp2 rfl _ _ _) rfl ?_
                rw [HL.out HE1.out, HE1.out]
                exact ⟨_, L, rfl, by rw [← HAe.out]; exact E3.out.trans (F0.out.mono (by rw [HSe.out]; exact Z3.out)), by rw [← HAe.out, HLL.out]; exact ownsRow_base HO.out (by rw [HSe.out]; exact Z3.out), fun x hx => (HT.out x hx).1, HMP.out⟩
end Go.Proofs.Ytioeaknhcfkfcaa
