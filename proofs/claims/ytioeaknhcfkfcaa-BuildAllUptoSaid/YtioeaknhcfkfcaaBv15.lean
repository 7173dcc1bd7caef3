/-
  The law's back.
  Entries that came in, where all that came in is of bounded bulk; updates of entries that rise.
-/
import Derived.Test.YtioeaknhcfkfcaaBu14
import Derived.Test.YtioeaknhcfkfcaaRows
namespace Go.Proofs.Ytioeaknhcfkfcaa
open Go.RowKit

/-- Entries on their way back. -/
structure TR (w : World) (A : Nat) (n : Nat) (a : Option Addr) (f : Nat → E3) (v : Value) (xs : List E3) (W : World) : Prop where
  r : Blk W A (.cells #[.bool false, .slice none 0 0] 49)
  h : Blk W (A + 1) (.cells #[.bool false, v] 49)
  es : EOs W 32 27 (A + 2) v xs
  e : HoldsW W A a n f
  below : Below A w W
theorem TR.more {w W W' : World} {A : Nat} {n : Nat} {a : Option Addr} {f : Nat → E3} {v : Value} {xs : List E3} (h : TR w A n a f v xs W) (hb : Below W.heap.size W W') : TR w A n a f v xs W' :=
  ⟨h.r.keep hb, h.h.keep hb, h.es.keep hb, h.e.keep hb, h.below.trans (hb.mono (Nat.le_of_lt h.r.lt))⟩
theorem TR.app {w W w3 : World} {A : Nat} {n : Nat} {a : Option Addr} {f : Nat → E3} {v v' : Value} {xs : List E3} {z : E3} (h : TR w A n a f v xs W) (hz : EOw W 27 (A + 2) z)
    (ho : w3.ownsRow (A + 2) 32 22 v' (xs.length + 1) (ecs xs ++ ec z.1)) (hg : (W.alloc (.cells (ec z.1).toArray 32)).grownBy w3 v.ownBlock) : TR w A n a f v' (xs ++ [z]) (w3.setCell ⟨A + 1, 1, none⟩ v') := by
  have hl := h.h.lt
  have hm' : Below W.heap.size W (W.alloc (.cells (ec z.1).toArray 32)) := Go.Proofs.Ytioeaknhcfkfcaa.more (Below.refl _ _) _
  have hes := h.es.keep hm'
  have hb : Below (A + 2) W w3 := below_row_grown (hm'.mono (by omega)) (by simp; omega) hes.v hg
  have hh := h.h.upto hb (by omega)
  have hT : Turn (A + 1) (.cells #[.bool false, v'] 49) w3 (w3.setCell ⟨A + 1, 1, none⟩ v') := ((Turn.same hh).set 1 v').as rfl
  have hr := h.r.upto hb (by omega)
  have hbt : Below A w3 (w3.setCell ⟨A + 1, 1, none⟩ v') := hT.below (by omega) (by have := hr.lt; omega)
  exact ⟨hT.keep hr (by omega), hT.blk, (hes.app (hz.keep hm') (by decide) ho hg).turn hT (by omega), (h.e.upto hb (by omega)).upto hbt (by omega), (h.below.trans (hb.mono (by omega))).trans hbt⟩
/-- What back answers. -/
def BackPost (n : Nat) (f : Nat → E3) (w : World) (r : Ending) (w' : World) : Prop :=
  ∃ a c xs, r = .returned (.agg #[.bool false, .slice a n c]) ∧ EOs w' 32 27 w.heap.size (.slice a n c) xs ∧ xs.length = n ∧ (∀ j z, xs[j]? = some z → SameE (f j) z) ∧ Below w.heap.size w w'
theorem u_oneB (a : Option Addr) (n c : Nat) (u : Bool) : (#[Value.bool u, .slice a n c] : Array Value).all (·.oneCell') = true := by simp [Value.oneCell']
set_option maxRecDepth 100000 in
set_option maxHeartbeats 16000000 in
theorem back_any (a : Option Addr) (n c : Nat) (f : Nat → E3) (w : World) (h : HoldsW w w.heap.size a n f) (hn : n ≤ 1000000) :
    Calls Try.prog 13 #[.slice a n c] w (BackPost n f w) := by
  obtain ⟨A, hA⟩ : ∃ A, A = w.heap.size := ⟨_, rfl⟩
  have HAe := Kp.mk hA
  have HN := Kp.mk hn
  obtain ⟨i0, hi0, hz0, hz1, hz2⟩ := info_parts info105z
  have S0 : Kp (TR w A n a f (.slice none 0 0) [] ((w.alloc (.cells #[.bool false, .slice none 0 0] 49)).alloc (.cells #[.bool false, .slice none 0 0] 49))) := ⟨(Blk.newAt _ hA).old _, Blk.newAt _ (by simp [hA]), ⟨World.ownsRow_nil _ _ _ _, fun z hz => by cases hz⟩, by rw [hA]; exact (h.keep (more (Below.refl _ _) _)).keep (more (Below.refl _ _) _), by rw [hA]; exact more (more (Below.refl _ _) _) _⟩
  clear h
  go_enter Try.func13, Try.ntmps13
  go_wp2_with fail
  rw [← hA]
  clear hA
  generalize (w.alloc (.cells #[.bool false, .slice none 0 0] 49)).alloc (.cells #[.bool false, .slice none 0 0] 49) = W at *
  go_loopw [8] (fun ct wr => ∃ (i : Nat) (av : Option Addr) (nv cv : Nat) (xs : List E3), i ≤ n ∧ ct = .int .i64 i ∧ Kp (TR w A n a f (.slice av nv cv) xs wr) ∧ Kp (SameRow f i xs)) (fun ct _ => n - (intOf ct).toNat)
  case atStart => exact ⟨0, none, 0, 0, [], by omega, rfl, S0, ⟨rfl, fun j z hz => by simp at hz⟩⟩
  case round =>
    obtain ⟨i, av, nv, cv, xs, hi, rfl, HS, HXS⟩ := hrel
    by_cases hlt : i < n
    · obtain ⟨b, off, rfl, -, -, k1⟩ := HS.out.e.c i hlt
      have HEI := Kp.mk (HS.out.e.e i hlt)
      have HRG := Kp.mk k1
      obtain ⟨x, hx⟩ : ∃ x, x = f i := ⟨_, rfl⟩
      have HX := Kp.mk hx
      rw [← hx] at HEI HRG
      have HIX := Kp.mk (info115w HEI.out.l)
      have HLEN : Kp ((Try.prog.info? 76).map (·.size) = some (ec x.1).length) := ⟨by have := HIX.out; simpa using this⟩
      have HSZ : Kp ((ec x.1).toArray.size = 22) := ⟨by rw [List.size_toArray]; exact ec_len HEI.out.l⟩
      have HC18 : Kp ((Try.prog.info? 73).map (·.size) = some (cc x.1.lf x.1.wa x.1.wn x.1.wc x.1.pa x.1.pn x.1.pc).length) := ⟨by rw [cc_len HEI.out.l]; kernel_rfl⟩
      clear k1 hx
      obtain ⟨T, hT⟩ : ∃ T, T = wr.heap.size := ⟨_, rfl⟩
      have HTe := Kp.mk hT
      have HVT : Kp (∀ k, (Value.slice av nv cv).ownBlock = some k → k < T) := ⟨by rw [hT]; exact ownsRow_top HS.out.es.v⟩
      have HVA : Kp (A + 1 < T) := ⟨by rw [hT]; exact HS.out.h.lt⟩
      clear hT
      go_wp2_with (first
        | (refine wpList_load_mid rfl 76 (.tmp 10) rfl b (off + i * 22) rfl (ec x.1) _ HRG.out Try.underlying76 rfl HLEN.out ?_)
        | (refine wpList_store_row rfl 76 (.tmp 5) (.tmp 11) rfl wr.heap.size (ec x.1).toArray rfl rfl 76 _ (Blk.newAt _ rfl) HIX.out (by rw [HSZ.out]; rfl) (ec_one x.1) ?_; rw [← HTe.out]; refine wpl_world (fun W => TR w A n (some ⟨b, off, none⟩) f (.slice av nv cv) xs W ∧ Blk W T (.cells (ec x.1).toArray 76) ∧ EIw W A x) ⟨by rw [HTe.out, World.setRow_alloc_new]; exact HS.out.more (more (Below.refl _ _) _), by rw [HTe.out, World.setRow_alloc_new]; exact Blk.new _ _, by rw [HTe.out, World.setRow_alloc_new]; exact HEI.out.keep (more (Below.refl _ _) _)⟩ ?_; rintro W6 h6; have S6 := Kp.mk h6; clear h6))
      clear HS HEI HRG
      refine wp_region_held_drew (S := fun w' => Kp (Blk w' T (.cells (ec x.1).toArray 76))) (by kernel_rfl) (⟨S6.out.2.1⟩) (fun hH => ?_)
      refine wpAnyH_take (i := 0) (oi := { dst := some 12, op := Go.Op.fieldAddr 49 (Go.Operand.tmp 3) 1, type := 0, pos := "law.go:49", after := #[], guard := none }) (v := .pointer (some ⟨A + 1, 1, none⟩)) rfl (by kernel_rfl) (by kernel_rfl) (by kernel_rfl) (fun _ _ _ h => h) (Or.inl ⟨by rfl, fun w hS => by first | rfl | go_simp⟩) hH ?_
      simp only [Act.put, List.setIfInBounds_toArray, List.set_cons_zero, List.set_cons_succ]
      refine wpAnyH_take (i := 2) (oi := { dst := some 14, op := Go.Op.fieldAddr 76 (Go.Operand.tmp 5) 0, type := 0, pos := "law.go:49", after := #[], guard := none }) (v := .pointer (some ⟨T, 0, none⟩)) rfl (by kernel_rfl) (by kernel_rfl) (by kernel_rfl) (fun _ _ _ h => h) (Or.inl ⟨by rfl, fun w hS => by first | rfl | go_simp⟩) hH ?_
      simp only [Act.put, List.setIfInBounds_toArray, List.set_cons_zero, List.set_cons_succ]
      refine wpAnyH_take (i := 3) (oi := { dst := some 15, op := Go.Op.load 3 (Go.Operand.tmp 14), type := 3, pos := "law.go:49", after := #[{ on := 2, ground := Go.Ground.data }], guard := none }) (v := .int .i64 x.1.d) rfl (by kernel_rfl) (by kernel_rfl) (by kernel_rfl) (fun _ _ _ h => h) (Or.inl ⟨by rfl, fun w hS => by have c1 : w.cell? ⟨T, 0, none⟩ = some (.int .i64 x.1.d) := hS.out.cell 0; go_simp⟩) hH ?_
      simp only [Act.put, List.setIfInBounds_toArray, List.set_cons_zero, List.set_cons_succ]
      refine wpAnyH_take (i := 4) (oi := { dst := some 16, op := Go.Op.fieldAddr 76 (Go.Operand.tmp 5) 1, type := 0, pos := "law.go:49", after := #[], guard := none }) (v := .pointer (some ⟨T, 1, none⟩)) rfl (by kernel_rfl) (by kernel_rfl) (by kernel_rfl) (fun _ _ _ h => h) (Or.inl ⟨by rfl, fun w hS => by first | rfl | go_simp⟩) hH ?_
      simp only [Act.put, List.setIfInBounds_toArray, List.set_cons_zero, List.set_cons_succ]
      refine wpAnyH_take (i := 5) (oi := { dst := some 17, op := Go.Op.load 68 (Go.Operand.tmp 16), type := 68, pos := "law.go:49", after := #[{ on := 4, ground := Go.Ground.data }], guard := none }) (v := .agg #[.int .u32 x.1.e, .int .u32 x.1.s, .int .i64 x.1.m]) rfl (by kernel_rfl) (by kernel_rfl) (by kernel_rfl) (fun _ _ _ h => h) (Or.inl ⟨by rfl, fun w hS => exec_load_mid (x := .tmp 16) rfl rfl (ec_key (ec_range hS.out)) Try.underlying68 rfl (by kernel_rfl)⟩) hH ?_
      simp only [Act.put, List.setIfInBounds_toArray, List.set_cons_zero, List.set_cons_succ]
      refine wpAnyH_take (i := 7) (oi := { dst := some 19, op := Go.Op.fieldAddr 76 (Go.Operand.tmp 5) 2, type := 0, pos := "law.go:49", after := #[], guard := none }) (v := .pointer (some ⟨T, 4, none⟩)) rfl (by kernel_rfl) (by kernel_rfl) (by kernel_rfl) (fun _ _ _ h => h) (Or.inl ⟨by rfl, fun w hS => by first | rfl | go_simp⟩) hH ?_
      simp only [Act.put, List.setIfInBounds_toArray, List.set_cons_zero, List.set_cons_succ]
      refine wpAnyH_take (i := 8) (oi := { dst := some 20, op := Go.Op.load 73 (Go.Operand.tmp 19), type := 73, pos := "law.go:49", after := #[{ on := 7, ground := Go.Ground.data }], guard := none }) (v := .agg (cc x.1.lf x.1.wa x.1.wn x.1.wc x.1.pa x.1.pn x.1.pc).toArray) rfl (by kernel_rfl) (by kernel_rfl) (by kernel_rfl) (fun _ _ _ h => h) (Or.inl ⟨by rfl, fun w hS => exec_load_mid (x := .tmp 19) rfl rfl (ec_cred (ec_range hS.out)) Try.underlying73 rfl HC18.out⟩) hH ?_
      simp only [Act.put, List.setIfInBounds_toArray, List.set_cons_zero, List.set_cons_succ]
      refine wpAnyH_ready (rs := [1, 6]) (by kernel_rfl) (by simp) ?_
      refine AllReadyH.cons (o := { dst := some 13, op := Go.Op.load 22 (Go.Operand.tmp 12), type := 22, pos := "law.go:49", after := #[{ on := 0, ground := Go.Ground.data }], guard := none }) rfl (fun K hK => ?_) (AllReadyH.cons (o := { dst := some 18, op := Go.Op.call { callee := Go.Callee.value (Go.Operand.func 36), args := #[Go.Operand.tmp 17], argTypes := #[68] }, type := 26, pos := "law.go:49", after := #[{ on := 5, ground := Go.Ground.data }], guard := none }) rfl (fun K hK => ?_) AllReadyH.nil)
      · have q2 : World.cell? W6.drew ⟨A + 1, 1, none⟩ = some (.slice av nv cv) := S6.out.1.h.cell 1
        go_simp
        clear q2
        refine hK.out _ _ (hH) (fun hHn => ?_)
        clear hK K hH
        have hH := hHn
        clear hHn
        try simp only [Act.put, List.setIfInBounds_toArray, List.set_cons_zero, List.set_cons_succ]
        refine wpAnyH_ready (rs := [6]) (by kernel_rfl) (by simp) ?_
        refine AllReadyH.cons (o := { dst := some 18, op := Go.Op.call { callee := Go.Callee.value (Go.Operand.func 36), args := #[Go.Operand.tmp 17], argTypes := #[68] }, type := 26, pos := "law.go:49", after := #[{ on := 5, ground := Go.Ground.data }], guard := none }) rfl (fun K hK => ?_) AllReadyH.nil
        go_simp
        refine (kfrom_any x.1.e x.1.s x.1.m W6.drew).mono ?_
        rintro r w1 ⟨rfl, hb⟩
        have S7 : Kp (TR w A n (some ⟨b, off, none⟩) f (.slice av nv cv) xs w1 ∧ Blk w1 T (.cells (ec x.1).toArray 76) ∧ EIw w1 A x) := ⟨(S6.out.1.more (Below.refl _ _).drew).more hb, (S6.out.2.1.keep (Below.refl _ _).drew).keep hb, (S6.out.2.2.keep (Below.refl _ _).drew).keep hb⟩
        clear hb S6
        refine hK.out _ _ (⟨S7.out.2.1⟩) (fun hHn => ?_)
        clear hK K hH
        have hH := hHn
        clear hHn
        try simp only [Act.put, List.setIfInBounds_toArray, List.set_cons_zero, List.set_cons_succ]
        refine wpAnyH_ready (rs := [9]) (by kernel_rfl) (by simp) ?_
        refine AllReadyH.cons (o := { dst := some 21, op := Go.Op.call { callee := Go.Callee.value (Go.Operand.func 37), args := #[Go.Operand.tmp 20], argTypes := #[73] }, type := 30, pos := "law.go:49", after := #[{ on := 8, ground := Go.Ground.data }, { on := 6, ground := Go.Ground.chain }], guard := none }) rfl (fun K hK => ?_) AllReadyH.nil
        go_simp
        refine (fromcred_any x.1.lf x.1.wa x.1.wn x.1.wc x.1.pa x.1.pn x.1.pc x.2.1 x.2.2 w1 S7.out.2.2.l S7.out.2.2.hw S7.out.2.2.hp ⟨by have := S7.out.2.2.wn; omega, by have := S7.out.2.2.pn; omega⟩).mono ?_
        rintro r w2 ⟨a4, c4, a7, c7, rfl, h4, h7, hb⟩
        obtain ⟨z, hz⟩ : ∃ z : E3, z = (⟨x.1.d, x.1.e, x.1.s, x.1.m, x.1.lf, a4, x.1.wn, c4, a7, x.1.pn, c7⟩, x.2.1, x.2.2) := ⟨_, rfl⟩
        have HZ9 : Kp (SameE x z) := ⟨by rw [hz]; exact ⟨rfl, rfl, rfl, rfl, rfl, rfl, rfl, rfl, rfl⟩⟩
        have HZL : Kp (z.1.lf.length = 16) := ⟨by rw [hz]; exact S7.out.2.2.l⟩
        have S8 : Kp (TR w A n (some ⟨b, off, none⟩) f (.slice av nv cv) xs w2 ∧ Blk w2 T (.cells (ec x.1).toArray 76) ∧ EOw w2 27 (A + 2) z) := ⟨S7.out.1.more hb, S7.out.2.1.keep hb, by
          rw [hz]
          exact ⟨S7.out.2.2.l, S7.out.2.2.b, S7.out.2.2.hw.lenB.1, S7.out.2.2.hp.lenB.1, Nat.le_trans S7.out.2.2.wn (by decide), Nat.le_trans S7.out.2.2.pn (by decide), S7.out.2.2.hw.lenB.2, S7.out.2.2.hp.lenB.2, ownsRow_base h4 (by have := S7.out.1.h.lt; omega), ownsRow_base h7 (by have := S7.out.1.h.lt; omega)⟩⟩
        have HBD : Kp (∀ w, (Instr.build 32 #[(0, .int .i64 x.1.d), (1, .agg #[.int .u32 x.1.e, .int .u32 x.1.s, .int .i64 x.1.m]), (2, .agg (cc x.1.lf a4 x.1.wn c4 a7 x.1.pn c7).toArray)]).run Try.prog w = .ok (.agg (ec z.1).toArray) w) := ⟨fun w => by rw [hz]; exact build105q S7.out.2.2.l x.1.d x.1.e x.1.s x.1.m a4 x.1.wn c4 a7 x.1.pn c7 w⟩
        clear hb h4 h7 S7 hz
        refine hK.out _ _ (⟨S8.out.2.1⟩) (fun hHn => ?_)
        clear hK K hH
        have hH := hHn
        clear hHn
        try simp only [Act.put, List.setIfInBounds_toArray, List.set_cons_zero, List.set_cons_succ]
        refine wpAnyH_take (i := 10) (oi := { dst := some 22, op := Go.Op.build 32 #[(0, Go.Operand.tmp 15), (1, Go.Operand.tmp 18), (2, Go.Operand.tmp 21)], type := 32, pos := "law.go:49", after := #[{ on := 3, ground := Go.Ground.data }, { on := 6, ground := Go.Ground.data }, { on := 9, ground := Go.Ground.data }], guard := none }) (v := .agg (ec z.1).toArray) rfl (by kernel_rfl) (by kernel_rfl) (by kernel_rfl) (fun _ _ _ h => h) (Or.inl ⟨by rfl, fun w hS => exec_build3 (x := .tmp 15) (y := .tmp 18) (z := .tmp 21) rfl rfl rfl rfl (HBD.out w)⟩) hH ?_
        simp only [Act.put, List.setIfInBounds_toArray, List.set_cons_zero, List.set_cons_succ]
        refine wpAnyH_ready (rs := [11]) (by kernel_rfl) (by simp) ?_
        refine AllReadyH.cons (o := { dst := some 23, op := Go.Op.buildSlice 22 1 #[(0, Go.Operand.tmp 22)], type := 22, pos := "law.go:49", after := #[{ on := 10, ground := Go.Ground.data }], guard := none }) rfl (fun K hK => ?_) AllReadyH.nil
        rw [if_pos (by rfl)]
        refine wp_buildSlice_one 22 1 (.tmp 22) rfl (ecV z.1) rfl _ _ (build50s HZL.out w2) ?_
        refine hK.out _ _ (⟨S8.out.2.1.keep (more (Below.refl _ _) _)⟩) (fun hHn => ?_)
        clear hK K hH
        have hH := hHn
        clear hHn
        try simp only [Act.put, List.setIfInBounds_toArray, List.set_cons_zero, List.set_cons_succ]
        refine wpAnyH_ready (rs := [12]) (by kernel_rfl) (by simp) ?_
        refine AllReadyH.cons (o := { dst := some 24, op := Go.Op.call { callee := Go.Callee.builtin Go.Builtin.append, args := #[Go.Operand.tmp 13, Go.Operand.tmp 23], argTypes := #[22, 22] }, type := 22, pos := "law.go:49", after := #[{ on := 1, ground := Go.Ground.data }, { on := 11, ground := Go.Ground.data }, { on := 9, ground := Go.Ground.chain }], guard := none }) rfl (fun K hK => ?_) AllReadyH.nil
        refine step_append_lies _ rfl (.tmp 13) (.tmp 23) 22 rfl (A + 2) 32 i0 (.agg (ec x0).toArray) 22 88 Try.underlying22 hi0 hz0 hz1 hz2 rfl (by decide) (.slice av nv cv) xs.length (ecs xs) rfl (S8.out.1.es.keep (more (Below.refl _ _) _)).v ⟨w2.heap.size, 0, none⟩ 1 1 (ec z.1) rfl ?e0 ?e1 ?e2 (by decide) ?e3 ?e4 ?e5 (w2.heap.size + 1) ?e6 ?_
        case e0 => rw [ec_len HZL.out]
        case e1 => exact World.news_of_block (Blk.new w2 (.cells (ec z.1).toArray 32))
        case e2 => exact fun u hu => List.all_eq_true.1 (by simpa using ec_one z.1) u hu
        case e3 => have := HXS.out.1; have := HN.out; unfold maxLen; omega
        case e4 => have := HXS.out.1; have := HN.out; omega
        case e5 => have := S8.out.1.h.lt; simp; omega
        case e6 => simp
        intro g capN w3 ho hg hv hlt9
        have HT3 : Kp (Blk w3 T (.cells (ec x.1).toArray 76)) := ⟨(hg.block T (by have := S8.out.2.1.lt; simp; omega) (fun e => by have := HVT.out T e.symm; omega)).trans (S8.out.2.1.keep (more (Below.refl _ _) _))⟩
        have HH8 : Kp (Blk w3 (A + 1) (.cells #[.bool false, .slice av nv cv] 49)) := ⟨S8.out.1.h.upto (below_row_grown (B := A + 2) ((more (Below.refl _ _) _).mono (by have := S8.out.1.h.lt; omega)) (by have := S8.out.1.h.lt; simp; omega) (S8.out.1.es.keep (more (Below.refl _ _) _)).v hg) (by omega)⟩
        have S9 := Kp.mk (S8.out.1.app S8.out.2.2 ho hg)
        clear ho hg hv hlt9 S8
        refine hK.out _ _ (⟨HT3.out⟩) (fun hHn => ?_)
        clear hK K hH
        have hH := hHn
        clear hHn
        try simp only [Act.put, List.setIfInBounds_toArray, List.set_cons_zero, List.set_cons_succ]
        refine wpAnyH_take (i := 13) (oi := { dst := some 25, op := Go.Op.fieldAddr 49 (Go.Operand.tmp 3) 1, type := 0, pos := "law.go:49", after := #[{ on := 0, ground := Go.Ground.phase }, { on := 1, ground := Go.Ground.phase }, { on := 2, ground := Go.Ground.phase }, { on := 3, ground := Go.Ground.phase }, { on := 4, ground := Go.Ground.phase }, { on := 5, ground := Go.Ground.phase }, { on := 6, ground := Go.Ground.phase }, { on := 7, ground := Go.Ground.phase }, { on := 8, ground := Go.Ground.phase }, { on := 9, ground := Go.Ground.phase }, { on := 10, ground := Go.Ground.phase }, { on := 11, ground := Go.Ground.phase }, { on := 12, ground := Go.Ground.phase }], guard := none }) (v := .pointer (some ⟨A + 1, 1, none⟩)) rfl (by kernel_rfl) (by kernel_rfl) (by kernel_rfl) (fun _ _ _ h => h) (Or.inl ⟨by rfl, fun w hS => by first | rfl | go_simp⟩) hH ?_
        simp only [Act.put, List.setIfInBounds_toArray, List.set_cons_zero, List.set_cons_succ]
        refine wpAnyH_ready (rs := [14]) (by kernel_rfl) (by simp) ?_
        refine AllReadyH.cons (o := { dst := none, op := Go.Op.store 22 (Go.Operand.tmp 25) (Go.Operand.tmp 24), type := 0, pos := "law.go:49", after := #[{ on := 13, ground := Go.Ground.data }, { on := 12, ground := Go.Ground.data }, { on := 12, ground := Go.Ground.chain }, { on := 0, ground := Go.Ground.phase }, { on := 1, ground := Go.Ground.phase }, { on := 2, ground := Go.Ground.phase }, { on := 3, ground := Go.Ground.phase }, { on := 4, ground := Go.Ground.phase }, { on := 5, ground := Go.Ground.phase }, { on := 6, ground := Go.Ground.phase }, { on := 7, ground := Go.Ground.phase }, { on := 8, ground := Go.Ground.phase }, { on := 9, ground := Go.Ground.phase }, { on := 10, ground := Go.Ground.phase }, { on := 11, ground := Go.Ground.phase }, { on := 12, ground := Go.Ground.phase }], guard := none }) rfl (fun K hK => ?_) AllReadyH.nil
        have q2 := HH8.out.cell 1
        have q3 := HH8.out.frozen 1
        go_simp
        clear q2 q3
        refine hK.out _ _ (⟨((Turn.same HH8.out).set 1 _).keep HT3.out (by have := HVA.out; omega)⟩) (fun hHn => ?_)
        clear hK K hH
        have hH := hHn
        clear hHn
        try simp only [Act.put, List.setIfInBounds_toArray, List.set_cons_zero, List.set_cons_succ]
        clear hH HT3 HH8
        refine wpAnyH_done (by kernel_rfl) ?_ _
        refine ex_worldU (fun W => TR w A n (some ⟨b, off, none⟩) f (.slice (some ⟨g, 0, none⟩) (xs.length + 1) capN) (xs ++ [z]) W) S9.out ?_
        intro W9 hW
        have G9 := Kp.mk hW
        clear hW S9
        go_wp2_with fail
        exact ⟨⟨i + 1, _, _, _, xs ++ [z], by omega, by go_num, G9, ⟨SameRow.app HXS.out (by rw [← HX.out]; exact HZ9.out)⟩⟩, by simp [intOf]; omega⟩
      · go_simp
        refine (kfrom_any x.1.e x.1.s x.1.m W6.drew).mono ?_
        rintro r w1 ⟨rfl, hb⟩
        have S7 : Kp (TR w A n (some ⟨b, off, none⟩) f (.slice av nv cv) xs w1 ∧ Blk w1 T (.cells (ec x.1).toArray 76) ∧ EIw w1 A x) := ⟨(S6.out.1.more (Below.refl _ _).drew).more hb, (S6.out.2.1.keep (Below.refl _ _).drew).keep hb, (S6.out.2.2.keep (Below.refl _ _).drew).keep hb⟩
        clear hb S6
        refine hK.out _ _ (⟨S7.out.2.1⟩) (fun hHn => ?_)
        clear hK K hH
        have hH := hHn
        clear hHn
        try simp only [Act.put, List.setIfInBounds_toArray, List.set_cons_zero, List.set_cons_succ]
        refine wpAnyH_ready (rs := [1, 9]) (by kernel_rfl) (by simp) ?_
        refine AllReadyH.cons (o := { dst := some 13, op := Go.Op.load 22 (Go.Operand.tmp 12), type := 22, pos := "law.go:49", after := #[{ on := 0, ground := Go.Ground.data }], guard := none }) rfl (fun K hK => ?_) (AllReadyH.cons (o := { dst := some 21, op := Go.Op.call { callee := Go.Callee.value (Go.Operand.func 37), args := #[Go.Operand.tmp 20], argTypes := #[73] }, type := 30, pos := "law.go:49", after := #[{ on := 8, ground := Go.Ground.data }, { on := 6, ground := Go.Ground.chain }], guard := none }) rfl (fun K hK => ?_) AllReadyH.nil)
        · have q2 : World.cell? w1 ⟨A + 1, 1, none⟩ = some (.slice av nv cv) := S7.out.1.h.cell 1
          go_simp
          clear q2
          refine hK.out _ _ (hH) (fun hHn => ?_)
          clear hK K hH
          have hH := hHn
          clear hHn
          try simp only [Act.put, List.setIfInBounds_toArray, List.set_cons_zero, List.set_cons_succ]
          refine wpAnyH_ready (rs := [9]) (by kernel_rfl) (by simp) ?_
          refine AllReadyH.cons (o := { dst := some 21, op := Go.Op.call { callee := Go.Callee.value (Go.Operand.func 37), args := #[Go.Operand.tmp 20], argTypes := #[73] }, type := 30, pos := "law.go:49", after := #[{ on := 8, ground := Go.Ground.data }, { on := 6, ground := Go.Ground.chain }], guard := none }) rfl (fun K hK => ?_) AllReadyH.nil
          go_simp
          refine (fromcred_any x.1.lf x.1.wa x.1.wn x.1.wc x.1.pa x.1.pn x.1.pc x.2.1 x.2.2 w1 S7.out.2.2.l S7.out.2.2.hw S7.out.2.2.hp ⟨by have := S7.out.2.2.wn; omega, by have := S7.out.2.2.pn; omega⟩).mono ?_
          rintro r w2 ⟨a4, c4, a7, c7, rfl, h4, h7, hb⟩
          obtain ⟨z, hz⟩ : ∃ z : E3, z = (⟨x.1.d, x.1.e, x.1.s, x.1.m, x.1.lf, a4, x.1.wn, c4, a7, x.1.pn, c7⟩, x.2.1, x.2.2) := ⟨_, rfl⟩
          have HZ9 : Kp (SameE x z) := ⟨by rw [hz]; exact ⟨rfl, rfl, rfl, rfl, rfl, rfl, rfl, rfl, rfl⟩⟩
          have HZL : Kp (z.1.lf.length = 16) := ⟨by rw [hz]; exact S7.out.2.2.l⟩
          have S8 : Kp (TR w A n (some ⟨b, off, none⟩) f (.slice av nv cv) xs w2 ∧ Blk w2 T (.cells (ec x.1).toArray 76) ∧ EOw w2 27 (A + 2) z) := ⟨S7.out.1.more hb, S7.out.2.1.keep hb, by
            rw [hz]
            exact ⟨S7.out.2.2.l, S7.out.2.2.b, S7.out.2.2.hw.lenB.1, S7.out.2.2.hp.lenB.1, Nat.le_trans S7.out.2.2.wn (by decide), Nat.le_trans S7.out.2.2.pn (by decide), S7.out.2.2.hw.lenB.2, S7.out.2.2.hp.lenB.2, ownsRow_base h4 (by have := S7.out.1.h.lt; omega), ownsRow_base h7 (by have := S7.out.1.h.lt; omega)⟩⟩
          have HBD : Kp (∀ w, (Instr.build 32 #[(0, .int .i64 x.1.d), (1, .agg #[.int .u32 x.1.e, .int .u32 x.1.s, .int .i64 x.1.m]), (2, .agg (cc x.1.lf a4 x.1.wn c4 a7 x.1.pn c7).toArray)]).run Try.prog w = .ok (.agg (ec z.1).toArray) w) := ⟨fun w => by rw [hz]; exact build105q S7.out.2.2.l x.1.d x.1.e x.1.s x.1.m a4 x.1.wn c4 a7 x.1.pn c7 w⟩
          clear hb h4 h7 S7 hz
          refine hK.out _ _ (⟨S8.out.2.1⟩) (fun hHn => ?_)
          clear hK K hH
          have hH := hHn
          clear hHn
          try simp only [Act.put, List.setIfInBounds_toArray, List.set_cons_zero, List.set_cons_succ]
          refine wpAnyH_take (i := 10) (oi := { dst := some 22, op := Go.Op.build 32 #[(0, Go.Operand.tmp 15), (1, Go.Operand.tmp 18), (2, Go.Operand.tmp 21)], type := 32, pos := "law.go:49", after := #[{ on := 3, ground := Go.Ground.data }, { on := 6, ground := Go.Ground.data }, { on := 9, ground := Go.Ground.data }], guard := none }) (v := .agg (ec z.1).toArray) rfl (by kernel_rfl) (by kernel_rfl) (by kernel_rfl) (fun _ _ _ h => h) (Or.inl ⟨by rfl, fun w hS => exec_build3 (x := .tmp 15) (y := .tmp 18) (z := .tmp 21) rfl rfl rfl rfl (HBD.out w)⟩) hH ?_
          simp only [Act.put, List.setIfInBounds_toArray, List.set_cons_zero, List.set_cons_succ]
          refine wpAnyH_ready (rs := [11]) (by kernel_rfl) (by simp) ?_
          refine AllReadyH.cons (o := { dst := some 23, op := Go.Op.buildSlice 22 1 #[(0, Go.Operand.tmp 22)], type := 22, pos := "law.go:49", after := #[{ on := 10, ground := Go.Ground.data }], guard := none }) rfl (fun K hK => ?_) AllReadyH.nil
          rw [if_pos (by rfl)]
          refine wp_buildSlice_one 22 1 (.tmp 22) rfl (ecV z.1) rfl _ _ (build50s HZL.out w2) ?_
          refine hK.out _ _ (⟨S8.out.2.1.keep (more (Below.refl _ _) _)⟩) (fun hHn => ?_)
          clear hK K hH
          have hH := hHn
          clear hHn
          try simp only [Act.put, List.setIfInBounds_toArray, List.set_cons_zero, List.set_cons_succ]
          refine wpAnyH_ready (rs := [12]) (by kernel_rfl) (by simp) ?_
          refine AllReadyH.cons (o := { dst := some 24, op := Go.Op.call { callee := Go.Callee.builtin Go.Builtin.append, args := #[Go.Operand.tmp 13, Go.Operand.tmp 23], argTypes := #[22, 22] }, type := 22, pos := "law.go:49", after := #[{ on := 1, ground := Go.Ground.data }, { on := 11, ground := Go.Ground.data }, { on := 9, ground := Go.Ground.chain }], guard := none }) rfl (fun K hK => ?_) AllReadyH.nil
          refine step_append_lies _ rfl (.tmp 13) (.tmp 23) 22 rfl (A + 2) 32 i0 (.agg (ec x0).toArray) 22 88 Try.underlying22 hi0 hz0 hz1 hz2 rfl (by decide) (.slice av nv cv) xs.length (ecs xs) rfl (S8.out.1.es.keep (more (Below.refl _ _) _)).v ⟨w2.heap.size, 0, none⟩ 1 1 (ec z.1) rfl ?e0 ?e1 ?e2 (by decide) ?e3 ?e4 ?e5 (w2.heap.size + 1) ?e6 ?_
          case e0 => rw [ec_len HZL.out]
          case e1 => exact World.news_of_block (Blk.new w2 (.cells (ec z.1).toArray 32))
          case e2 => exact fun u hu => List.all_eq_true.1 (by simpa using ec_one z.1) u hu
          case e3 => have := HXS.out.1; have := HN.out; unfold maxLen; omega
          case e4 => have := HXS.out.1; have := HN.out; omega
          case e5 => have := S8.out.1.h.lt; simp; omega
          case e6 => simp
          intro g capN w3 ho hg hv hlt9
          have HT3 : Kp (Blk w3 T (.cells (ec x.1).toArray 76)) := ⟨(hg.block T (by have := S8.out.2.1.lt; simp; omega) (fun e => by have := HVT.out T e.symm; omega)).trans (S8.out.2.1.keep (more (Below.refl _ _) _))⟩
          have HH8 : Kp (Blk w3 (A + 1) (.cells #[.bool false, .slice av nv cv] 49)) := ⟨S8.out.1.h.upto (below_row_grown (B := A + 2) ((more (Below.refl _ _) _).mono (by have := S8.out.1.h.lt; omega)) (by have := S8.out.1.h.lt; simp; omega) (S8.out.1.es.keep (more (Below.refl _ _) _)).v hg) (by omega)⟩
          have S9 := Kp.mk (S8.out.1.app S8.out.2.2 ho hg)
          clear ho hg hv hlt9 S8
          refine hK.out _ _ (⟨HT3.out⟩) (fun hHn => ?_)
          clear hK K hH
          have hH := hHn
          clear hHn
          try simp only [Act.put, List.setIfInBounds_toArray, List.set_cons_zero, List.set_cons_succ]
          refine wpAnyH_take (i := 13) (oi := { dst := some 25, op := Go.Op.fieldAddr 49 (Go.Operand.tmp 3) 1, type := 0, pos := "law.go:49", after := #[{ on := 0, ground := Go.Ground.phase }, { on := 1, ground := Go.Ground.phase }, { on := 2, ground := Go.Ground.phase }, { on := 3, ground := Go.Ground.phase }, { on := 4, ground := Go.Ground.phase }, { on := 5, ground := Go.Ground.phase }, { on := 6, ground := Go.Ground.phase }, { on := 7, ground := Go.Ground.phase }, { on := 8, ground := Go.Ground.phase }, { on := 9, ground := Go.Ground.phase }, { on := 10, ground := Go.Ground.phase }, { on := 11, ground := Go.Ground.phase }, { on := 12, ground := Go.Ground.phase }], guard := none }) (v := .pointer (some ⟨A + 1, 1, none⟩)) rfl (by kernel_rfl) (by kernel_rfl) (by kernel_rfl) (fun _ _ _ h => h) (Or.inl ⟨by rfl, fun w hS => by first | rfl | go_simp⟩) hH ?_
          simp only [Act.put, List.setIfInBounds_toArray, List.set_cons_zero, List.set_cons_succ]
          refine wpAnyH_ready (rs := [14]) (by kernel_rfl) (by simp) ?_
          refine AllReadyH.cons (o := { dst := none, op := Go.Op.store 22 (Go.Operand.tmp 25) (Go.Operand.tmp 24), type := 0, pos := "law.go:49", after := #[{ on := 13, ground := Go.Ground.data }, { on := 12, ground := Go.Ground.data }, { on := 12, ground := Go.Ground.chain }, { on := 0, ground := Go.Ground.phase }, { on := 1, ground := Go.Ground.phase }, { on := 2, ground := Go.Ground.phase }, { on := 3, ground := Go.Ground.phase }, { on := 4, ground := Go.Ground.phase }, { on := 5, ground := Go.Ground.phase }, { on := 6, ground := Go.Ground.phase }, { on := 7, ground := Go.Ground.phase }, { on := 8, ground := Go.Ground.phase }, { on := 9, ground := Go.Ground.phase }, { on := 10, ground := Go.Ground.phase }, { on := 11, ground := Go.Ground.phase }, { on := 12, ground := Go.Ground.phase }], guard := none }) rfl (fun K hK => ?_) AllReadyH.nil
          have q2 := HH8.out.cell 1
          have q3 := HH8.out.frozen 1
          go_simp
          clear q2 q3
          refine hK.out _ _ (⟨((Turn.same HH8.out).set 1 _).keep HT3.out (by have := HVA.out; omega)⟩) (fun hHn => ?_)
          clear hK K hH
          have hH := hHn
          clear hHn
          try simp only [Act.put, List.setIfInBounds_toArray, List.set_cons_zero, List.set_cons_succ]
          clear hH HT3 HH8
          refine wpAnyH_done (by kernel_rfl) ?_ _
          refine ex_worldU (fun W => TR w A n (some ⟨b, off, none⟩) f (.slice (some ⟨g, 0, none⟩) (xs.length + 1) capN) (xs ++ [z]) W) S9.out ?_
          intro W9 hW
          have G9 := Kp.mk hW
          clear hW S9
          go_wp2_with fail
          exact ⟨⟨i + 1, _, _, _, xs ++ [z], by omega, by go_num, G9, ⟨SameRow.app HXS.out (by rw [← HX.out]; exact HZ9.out)⟩⟩, by simp [intOf]; omega⟩
        · go_simp
          refine (fromcred_any x.1.lf x.1.wa x.1.wn x.1.wc x.1.pa x.1.pn x.1.pc x.2.1 x.2.2 w1 S7.out.2.2.l S7.out.2.2.hw S7.out.2.2.hp ⟨by have := S7.out.2.2.wn; omega, by have := S7.out.2.2.pn; omega⟩).mono ?_
          rintro r w2 ⟨a4, c4, a7, c7, rfl, h4, h7, hb⟩
          obtain ⟨z, hz⟩ : ∃ z : E3, z = (⟨x.1.d, x.1.e, x.1.s, x.1.m, x.1.lf, a4, x.1.wn, c4, a7, x.1.pn, c7⟩, x.2.1, x.2.2) := ⟨_, rfl⟩
          have HZ9 : Kp (SameE x z) := ⟨by rw [hz]; exact ⟨rfl, rfl, rfl, rfl, rfl, rfl, rfl, rfl, rfl⟩⟩
          have HZL : Kp (z.1.lf.length = 16) := ⟨by rw [hz]; exact S7.out.2.2.l⟩
          have S8 : Kp (TR w A n (some ⟨b, off, none⟩) f (.slice av nv cv) xs w2 ∧ Blk w2 T (.cells (ec x.1).toArray 76) ∧ EOw w2 27 (A + 2) z) := ⟨S7.out.1.more hb, S7.out.2.1.keep hb, by
            rw [hz]
            exact ⟨S7.out.2.2.l, S7.out.2.2.b, S7.out.2.2.hw.lenB.1, S7.out.2.2.hp.lenB.1, Nat.le_trans S7.out.2.2.wn (by decide), Nat.le_trans S7.out.2.2.pn (by decide), S7.out.2.2.hw.lenB.2, S7.out.2.2.hp.lenB.2, ownsRow_base h4 (by have := S7.out.1.h.lt; omega), ownsRow_base h7 (by have := S7.out.1.h.lt; omega)⟩⟩
          have HBD : Kp (∀ w, (Instr.build 32 #[(0, .int .i64 x.1.d), (1, .agg #[.int .u32 x.1.e, .int .u32 x.1.s, .int .i64 x.1.m]), (2, .agg (cc x.1.lf a4 x.1.wn c4 a7 x.1.pn c7).toArray)]).run Try.prog w = .ok (.agg (ec z.1).toArray) w) := ⟨fun w => by rw [hz]; exact build105q S7.out.2.2.l x.1.d x.1.e x.1.s x.1.m a4 x.1.wn c4 a7 x.1.pn c7 w⟩
          clear hb h4 h7 S7 hz
          refine hK.out _ _ (⟨S8.out.2.1⟩) (fun hHn => ?_)
          clear hK K hH
          have hH := hHn
          clear hHn
          try simp only [Act.put, List.setIfInBounds_toArray, List.set_cons_zero, List.set_cons_succ]
          refine wpAnyH_take (i := 10) (oi := { dst := some 22, op := Go.Op.build 32 #[(0, Go.Operand.tmp 15), (1, Go.Operand.tmp 18), (2, Go.Operand.tmp 21)], type := 32, pos := "law.go:49", after := #[{ on := 3, ground := Go.Ground.data }, { on := 6, ground := Go.Ground.data }, { on := 9, ground := Go.Ground.data }], guard := none }) (v := .agg (ec z.1).toArray) rfl (by kernel_rfl) (by kernel_rfl) (by kernel_rfl) (fun _ _ _ h => h) (Or.inl ⟨by rfl, fun w hS => exec_build3 (x := .tmp 15) (y := .tmp 18) (z := .tmp 21) rfl rfl rfl rfl (HBD.out w)⟩) hH ?_
          simp only [Act.put, List.setIfInBounds_toArray, List.set_cons_zero, List.set_cons_succ]
          refine wpAnyH_ready (rs := [1, 11]) (by kernel_rfl) (by simp) ?_
          refine AllReadyH.cons (o := { dst := some 13, op := Go.Op.load 22 (Go.Operand.tmp 12), type := 22, pos := "law.go:49", after := #[{ on := 0, ground := Go.Ground.data }], guard := none }) rfl (fun K hK => ?_) (AllReadyH.cons (o := { dst := some 23, op := Go.Op.buildSlice 22 1 #[(0, Go.Operand.tmp 22)], type := 22, pos := "law.go:49", after := #[{ on := 10, ground := Go.Ground.data }], guard := none }) rfl (fun K hK => ?_) AllReadyH.nil)
          · have q2 : World.cell? w2 ⟨A + 1, 1, none⟩ = some (.slice av nv cv) := S8.out.1.h.cell 1
            go_simp
            clear q2
            refine hK.out _ _ (hH) (fun hHn => ?_)
            clear hK K hH
            have hH := hHn
            clear hHn
            try simp only [Act.put, List.setIfInBounds_toArray, List.set_cons_zero, List.set_cons_succ]
            refine wpAnyH_ready (rs := [11]) (by kernel_rfl) (by simp) ?_
            refine AllReadyH.cons (o := { dst := some 23, op := Go.Op.buildSlice 22 1 #[(0, Go.Operand.tmp 22)], type := 22, pos := "law.go:49", after := #[{ on := 10, ground := Go.Ground.data }], guard := none }) rfl (fun K hK => ?_) AllReadyH.nil
            rw [if_pos (by rfl)]
            refine wp_buildSlice_one 22 1 (.tmp 22) rfl (ecV z.1) rfl _ _ (build50s HZL.out w2) ?_
            refine hK.out _ _ (⟨S8.out.2.1.keep (more (Below.refl _ _) _)⟩) (fun hHn => ?_)
            clear hK K hH
            have hH := hHn
            clear hHn
            try simp only [Act.put, List.setIfInBounds_toArray, List.set_cons_zero, List.set_cons_succ]
            refine wpAnyH_ready (rs := [12]) (by kernel_rfl) (by simp) ?_
            refine AllReadyH.cons (o := { dst := some 24, op := Go.Op.call { callee := Go.Callee.builtin Go.Builtin.append, args := #[Go.Operand.tmp 13, Go.Operand.tmp 23], argTypes := #[22, 22] }, type := 22, pos := "law.go:49", after := #[{ on := 1, ground := Go.Ground.data }, { on := 11, ground := Go.Ground.data }, { on := 9, ground := Go.Ground.chain }], guard := none }) rfl (fun K hK => ?_) AllReadyH.nil
            refine step_append_lies _ rfl (.tmp 13) (.tmp 23) 22 rfl (A + 2) 32 i0 (.agg (ec x0).toArray) 22 88 Try.underlying22 hi0 hz0 hz1 hz2 rfl (by decide) (.slice av nv cv) xs.length (ecs xs) rfl (S8.out.1.es.keep (more (Below.refl _ _) _)).v ⟨w2.heap.size, 0, none⟩ 1 1 (ec z.1) rfl ?e0 ?e1 ?e2 (by decide) ?e3 ?e4 ?e5 (w2.heap.size + 1) ?e6 ?_
            case e0 => rw [ec_len HZL.out]
            case e1 => exact World.news_of_block (Blk.new w2 (.cells (ec z.1).toArray 32))
            case e2 => exact fun u hu => List.all_eq_true.1 (by simpa using ec_one z.1) u hu
            case e3 => have := HXS.out.1; have := HN.out; unfold maxLen; omega
            case e4 => have := HXS.out.1; have := HN.out; omega
            case e5 => have := S8.out.1.h.lt; simp; omega
            case e6 => simp
            intro g capN w3 ho hg hv hlt9
            have HT3 : Kp (Blk w3 T (.cells (ec x.1).toArray 76)) := ⟨(hg.block T (by have := S8.out.2.1.lt; simp; omega) (fun e => by have := HVT.out T e.symm; omega)).trans (S8.out.2.1.keep (more (Below.refl _ _) _))⟩
            have HH8 : Kp (Blk w3 (A + 1) (.cells #[.bool false, .slice av nv cv] 49)) := ⟨S8.out.1.h.upto (below_row_grown (B := A + 2) ((more (Below.refl _ _) _).mono (by have := S8.out.1.h.lt; omega)) (by have := S8.out.1.h.lt; simp; omega) (S8.out.1.es.keep (more (Below.refl _ _) _)).v hg) (by omega)⟩
            have S9 := Kp.mk (S8.out.1.app S8.out.2.2 ho hg)
            clear ho hg hv hlt9 S8
            refine hK.out _ _ (⟨HT3.out⟩) (fun hHn => ?_)
            clear hK K hH
            have hH := hHn
            clear hHn
            try simp only [Act.put, List.setIfInBounds_toArray, List.set_cons_zero, List.set_cons_succ]
            refine wpAnyH_take (i := 13) (oi := { dst := some 25, op := Go.Op.fieldAddr 49 (Go.Operand.tmp 3) 1, type := 0, pos := "law.go:49", after := #[{ on := 0, ground := Go.Ground.phase }, { on := 1, ground := Go.Ground.phase }, { on := 2, ground := Go.Ground.phase }, { on := 3, ground := Go.Ground.phase }, { on := 4, ground := Go.Ground.phase }, { on := 5, ground := Go.Ground.phase }, { on := 6, ground := Go.Ground.phase }, { on := 7, ground := Go.Ground.phase }, { on := 8, ground := Go.Ground.phase }, { on := 9, ground := Go.Ground.phase }, { on := 10, ground := Go.Ground.phase }, { on := 11, ground := Go.Ground.phase }, { on := 12, ground := Go.Ground.phase }], guard := none }) (v := .pointer (some ⟨A + 1, 1, none⟩)) rfl (by kernel_rfl) (by kernel_rfl) (by kernel_rfl) (fun _ _ _ h => h) (Or.inl ⟨by rfl, fun w hS => by first | rfl | go_simp⟩) hH ?_
            simp only [Act.put, List.setIfInBounds_toArray, List.set_cons_zero, List.set_cons_succ]
            refine wpAnyH_ready (rs := [14]) (by kernel_rfl) (by simp) ?_
            refine AllReadyH.cons (o := { dst := none, op := Go.Op.store 22 (Go.Operand.tmp 25) (Go.Operand.tmp 24), type := 0, pos := "law.go:49", after := #[{ on := 13, ground := Go.Ground.data }, { on := 12, ground := Go.Ground.data }, { on := 12, ground := Go.Ground.chain }, { on := 0, ground := Go.Ground.phase }, { on := 1, ground := Go.Ground.phase }, { on := 2, ground := Go.Ground.phase }, { on := 3, ground := Go.Ground.phase }, { on := 4, ground := Go.Ground.phase }, { on := 5, ground := Go.Ground.phase }, { on := 6, ground := Go.Ground.phase }, { on := 7, ground := Go.Ground.phase }, { on := 8, ground := Go.Ground.phase }, { on := 9, ground := Go.Ground.phase }, { on := 10, ground := Go.Ground.phase }, { on := 11, ground := Go.Ground.phase }, { on := 12, ground := Go.Ground.phase }], guard := none }) rfl (fun K hK => ?_) AllReadyH.nil
            have q2 := HH8.out.cell 1
            have q3 := HH8.out.frozen 1
            go_simp
            clear q2 q3
            refine hK.out _ _ (⟨((Turn.same HH8.out).set 1 _).keep HT3.out (by have := HVA.out; omega)⟩) (fun hHn => ?_)
            clear hK K hH
            have hH := hHn
            clear hHn
            try simp only [Act.put, List.setIfInBounds_toArray, List.set_cons_zero, List.set_cons_succ]
            clear hH HT3 HH8
            refine wpAnyH_done (by kernel_rfl) ?_ _
            refine ex_worldU (fun W => TR w A n (some ⟨b, off, none⟩) f (.slice (some ⟨g, 0, none⟩) (xs.length + 1) capN) (xs ++ [z]) W) S9.out ?_
            intro W9 hW
            have G9 := Kp.mk hW
            clear hW S9
            go_wp2_with fail
            exact ⟨⟨i + 1, _, _, _, xs ++ [z], by omega, by go_num, G9, ⟨SameRow.app HXS.out (by rw [← HX.out]; exact HZ9.out)⟩⟩, by simp [intOf]; omega⟩
          · rw [if_pos (by rfl)]
            refine wp_buildSlice_one 22 1 (.tmp 22) rfl (ecV z.1) rfl _ _ (build50s HZL.out w2) ?_
            refine hK.out _ _ (⟨S8.out.2.1.keep (more (Below.refl _ _) _)⟩) (fun hHn => ?_)
            clear hK K hH
            have hH := hHn
            clear hHn
            try simp only [Act.put, List.setIfInBounds_toArray, List.set_cons_zero, List.set_cons_succ]
            refine wpAnyH_ready (rs := [1]) (by kernel_rfl) (by simp) ?_
            refine AllReadyH.cons (o := { dst := some 13, op := Go.Op.load 22 (Go.Operand.tmp 12), type := 22, pos := "law.go:49", after := #[{ on := 0, ground := Go.Ground.data }], guard := none }) rfl (fun K hK => ?_) AllReadyH.nil
            have q2 : World.cell? (w2.alloc (.cells (ec z.1).toArray 32)) ⟨A + 1, 1, none⟩ = some (.slice av nv cv) := (S8.out.1.more (more (Below.refl _ _) _)).h.cell 1
            go_simp
            clear q2
            refine hK.out _ _ (hH) (fun hHn => ?_)
            clear hK K hH
            have hH := hHn
            clear hHn
            try simp only [Act.put, List.setIfInBounds_toArray, List.set_cons_zero, List.set_cons_succ]
            refine wpAnyH_ready (rs := [12]) (by kernel_rfl) (by simp) ?_
            refine AllReadyH.cons (o := { dst := some 24, op := Go.Op.call { callee := Go.Callee.builtin Go.Builtin.append, args := #[Go.Operand.tmp 13, Go.Operand.tmp 23], argTypes := #[22, 22] }, type := 22, pos := "law.go:49", after := #[{ on := 1, ground := Go.Ground.data }, { on := 11, ground := Go.Ground.data }, { on := 9, ground := Go.Ground.chain }], guard := none }) rfl (fun K hK => ?_) AllReadyH.nil
            refine step_append_lies _ rfl (.tmp 13) (.tmp 23) 22 rfl (A + 2) 32 i0 (.agg (ec x0).toArray) 22 88 Try.underlying22 hi0 hz0 hz1 hz2 rfl (by decide) (.slice av nv cv) xs.length (ecs xs) rfl (S8.out.1.es.keep (more (Below.refl _ _) _)).v ⟨w2.heap.size, 0, none⟩ 1 1 (ec z.1) rfl ?e0 ?e1 ?e2 (by decide) ?e3 ?e4 ?e5 (w2.heap.size + 1) ?e6 ?_
            case e0 => rw [ec_len HZL.out]
            case e1 => exact World.news_of_block (Blk.new w2 (.cells (ec z.1).toArray 32))
            case e2 => exact fun u hu => List.all_eq_true.1 (by simpa using ec_one z.1) u hu
            case e3 => have := HXS.out.1; have := HN.out; unfold maxLen; omega
            case e4 => have := HXS.out.1; have := HN.out; omega
            case e5 => have := S8.out.1.h.lt; simp; omega
            case e6 => simp
            intro g capN w3 ho hg hv hlt9
            have HT3 : Kp (Blk w3 T (.cells (ec x.1).toArray 76)) := ⟨(hg.block T (by have := S8.out.2.1.lt; simp; omega) (fun e => by have := HVT.out T e.symm; omega)).trans (S8.out.2.1.keep (more (Below.refl _ _) _))⟩
            have HH8 : Kp (Blk w3 (A + 1) (.cells #[.bool false, .slice av nv cv] 49)) := ⟨S8.out.1.h.upto (below_row_grown (B := A + 2) ((more (Below.refl _ _) _).mono (by have := S8.out.1.h.lt; omega)) (by have := S8.out.1.h.lt; simp; omega) (S8.out.1.es.keep (more (Below.refl _ _) _)).v hg) (by omega)⟩
            have S9 := Kp.mk (S8.out.1.app S8.out.2.2 ho hg)
            clear ho hg hv hlt9 S8
            refine hK.out _ _ (⟨HT3.out⟩) (fun hHn => ?_)
            clear hK K hH
            have hH := hHn
            clear hHn
            try simp only [Act.put, List.setIfInBounds_toArray, List.set_cons_zero, List.set_cons_succ]
            refine wpAnyH_take (i := 13) (oi := { dst := some 25, op := Go.Op.fieldAddr 49 (Go.Operand.tmp 3) 1, type := 0, pos := "law.go:49", after := #[{ on := 0, ground := Go.Ground.phase }, { on := 1, ground := Go.Ground.phase }, { on := 2, ground := Go.Ground.phase }, { on := 3, ground := Go.Ground.phase }, { on := 4, ground := Go.Ground.phase }, { on := 5, ground := Go.Ground.phase }, { on := 6, ground := Go.Ground.phase }, { on := 7, ground := Go.Ground.phase }, { on := 8, ground := Go.Ground.phase }, { on := 9, ground := Go.Ground.phase }, { on := 10, ground := Go.Ground.phase }, { on := 11, ground := Go.Ground.phase }, { on := 12, ground := Go.Ground.phase }], guard := none }) (v := .pointer (some ⟨A + 1, 1, none⟩)) rfl (by kernel_rfl) (by kernel_rfl) (by kernel_rfl) (fun _ _ _ h => h) (Or.inl ⟨by rfl, fun w hS => by first | rfl | go_simp⟩) hH ?_
            simp only [Act.put, List.setIfInBounds_toArray, List.set_cons_zero, List.set_cons_succ]
            refine wpAnyH_ready (rs := [14]) (by kernel_rfl) (by simp) ?_
            refine AllReadyH.cons (o := { dst := none, op := Go.Op.store 22 (Go.Operand.tmp 25) (Go.Operand.tmp 24), type := 0, pos := "law.go:49", after := #[{ on := 13, ground := Go.Ground.data }, { on := 12, ground := Go.Ground.data }, { on := 12, ground := Go.Ground.chain }, { on := 0, ground := Go.Ground.phase }, { on := 1, ground := Go.Ground.phase }, { on := 2, ground := Go.Ground.phase }, { on := 3, ground := Go.Ground.phase }, { on := 4, ground := Go.Ground.phase }, { on := 5, ground := Go.Ground.phase }, { on := 6, ground := Go.Ground.phase }, { on := 7, ground := Go.Ground.phase }, { on := 8, ground := Go.Ground.phase }, { on := 9, ground := Go.Ground.phase }, { on := 10, ground := Go.Ground.phase }, { on := 11, ground := Go.Ground.phase }, { on := 12, ground := Go.Ground.phase }], guard := none }) rfl (fun K hK => ?_) AllReadyH.nil
            have q2 := HH8.out.cell 1
            have q3 := HH8.out.frozen 1
            go_simp
            clear q2 q3
            refine hK.out _ _ (⟨((Turn.same HH8.out).set 1 _).keep HT3.out (by have := HVA.out; omega)⟩) (fun hHn => ?_)
            clear hK K hH
            have hH := hHn
            clear hHn
            try simp only [Act.put, List.setIfInBounds_toArray, List.set_cons_zero, List.set_cons_succ]
            clear hH HT3 HH8
            refine wpAnyH_done (by kernel_rfl) ?_ _
            refine ex_worldU (fun W => TR w A n (some ⟨b, off, none⟩) f (.slice (some ⟨g, 0, none⟩) (xs.length + 1) capN) (xs ++ [z]) W) S9.out ?_
            intro W9 hW
            have G9 := Kp.mk hW
            clear hW S9
            go_wp2_with fail
            exact ⟨⟨i + 1, _, _, _, xs ++ [z], by omega, by go_num, G9, ⟨SameRow.app HXS.out (by rw [← HX.out]; exact HZ9.out)⟩⟩, by simp [intOf]; omega⟩
    · obtain rfl : i = n := by omega
      obtain rfl : nv = i := (ownsRow_len HS.out.es.v).trans HXS.out.1
      have hcl : ¬ ((nv : Int) < nv) := by omega
      go_wp2_with (first
        | (refine wpList_load_row rfl 49 (.tmp 3) rfl (A + 1) rfl 49 #[.bool false, .slice av nv cv] (0, 0) _ HS.out.h Try.underlying49 rfl info52t ?_)
        | (refine wpList_store_row rfl 49 (.tmp 2) (.tmp 27) rfl A #[.bool false, .slice av nv cv] rfl rfl 49 _ HS.out.r info52t rfl (u_oneB _ _ _ _) ?_; refine wpl_world (fun W => Blk W A (.cells #[.bool false, .slice av nv cv] 49) ∧ EOs W 32 27 (A + 2) (.slice av nv cv) xs ∧ Below A w W) ⟨(Turn.ofRow HS.out.r _).blk, HS.out.es.turn (Turn.ofRow HS.out.r _) (by omega), HS.out.below.trans ((Turn.ofRow HS.out.r _).below (by omega) (by have := HS.out.r.lt; omega))⟩ ?_; rintro W6 h6; have S6 := Kp.mk h6; clear h6))
      have hlen := HXS.out.1
      exact bodyPost_ret (results_row rfl _ _ A 49 #[.bool false, .slice av nv cv] (0, 0) _ rfl S6.out.1 Try.underlying49 rfl info52t) rfl ⟨av, cv, xs, rfl, EOs.base S6.out.2.1 (by have := HAe.out; omega), HXS.out.1, HXS.out.2, by rw [← HAe.out]; exact S6.out.2.2⟩
end Go.Proofs.Ytioeaknhcfkfcaa

namespace Go.Proofs.Ytioeaknhcfkfcaa
open Go.ChangeShapes Go.WideShapes Go.ChangeAt Go.RowKit Go.Deep Go.Joins

theorem bulk_one {H : Type} (d : DataW H) : 1 ≤ Rows.uptoBulk d := by
  cases d with
  | lit l => cases l <;> simp [Rows.uptoBulk]
  | nil => simp [Rows.uptoBulk]
  | ptr d => simp [Rows.uptoBulk]
  | slice elems spare => simp [Rows.uptoBulk]
  | agg parts => simp [Rows.uptoBulk]
  | iface t d => simp [Rows.uptoBulk]
  | map entries => simp [Rows.uptoBulk]
  | held h => simp [Rows.uptoBulk]
theorem bulk_part {H : Type} {d : DataW H} {l : List (DataW H)} (h : d ∈ l) : Rows.uptoBulk d ≤ Rows.uptoBulkAll l := by
  induction l with
  | nil => cases h
  | cons x r ih =>
    simp only [Rows.uptoBulkAll]
    cases List.mem_cons.1 h with
    | inl e => subst e; omega
    | inr e => have := ih e; omega
theorem bulk_append {H : Type} (l r : List (DataW H)) : Rows.uptoBulkAll (l ++ r) = Rows.uptoBulkAll l + Rows.uptoBulkAll r := by
  induction l with
  | nil => simp [Rows.uptoBulkAll]
  | cons x l ih => simp only [List.cons_append, Rows.uptoBulkAll, ih]; omega
theorem bulk_len {H : Type} (l : List (DataW H)) : l.length ≤ Rows.uptoBulkAll l := by
  induction l with
  | nil => simp [Rows.uptoBulkAll]
  | cons x r ih => have := bulk_one x; simp only [Rows.uptoBulkAll, List.length_cons]; omega
theorem bulk_slice {H : Type} (elems spare : List (DataW H)) : Rows.uptoBulkAll elems + 1 ≤ Rows.uptoBulk (.slice elems spare) := by
  simp only [Rows.uptoBulk]
  omega
theorem bulk_many {H : Type} (D : Nat → DataW H) (k : Nat) : ∀ n, (∀ i, i < n → k ≤ Rows.uptoBulk (D i)) → k * n ≤ Rows.uptoBulkAll ((List.range n).map D)
  | 0, _ => by simp
  | n + 1, h => by
    have h1 := bulk_many D k n (fun i hi => h i (by omega))
    have h2 := h n (by omega)
    rw [List.range_succ, List.map_append, bulk_append]
    simp only [List.map_cons, List.map_nil, Rows.uptoBulkAll]
    rw [Nat.mul_succ]
    omega
section
variable {H : Type} {enc : TypeId × Value → H} {W : World}
theorem sums_bulk {n : Nat} {a : Option Addr} {k c : Nat} {x : DataW H × List MemPlace} (h : DataW.trod enc Try.prog W 0 (fun _ => true) true n 28 [.slice a k c] = some x) : 17 * k ≤ Rows.uptoBulk x.1 := by
  rcases open_slice Try.underlying28 h with ⟨hcs, _⟩ | ⟨b, len, cap, m, n', D, Pl, hcs, hb, hl, hm, hmm, hx, hi⟩
  · simp at hcs
    omega
  · simp at hcs
    obtain ⟨rfl, rfl, rfl⟩ := hcs
    have hmc : m = c := by simpa using hmm
    have h1 := bulk_many D 17 k (fun i hi' => by
      obtain ⟨cs, _, ht⟩ := hi i (by omega)
      obtain ⟨ys, _, _, hy, _, hlen, _⟩ := DataW.trod_array Try.underlying27 ht
      have h2 : D i = .agg (ys.map (·.1)) := congrArg Prod.fst hy
      have h3 := bulk_len (ys.map (·.1))
      rw [h2]
      simp only [Rows.uptoBulk]
      simp at h3
      omega)
    rw [hx]
    simp only [Rows.uptoBulk]
    omega
theorem entry_trodU {fuel : Nat} {cs : List Value} {x : DataW H × List MemPlace} (hf : DataW.trod enc Try.prog W 0 (fun _ => true) true fuel 32 cs = some x) : ∃ z : E3, cs = ec z.1 ∧ ELo W z ∧ 17 * z.1.wn ≤ Rows.uptoBulk x.1 ∧ 17 * z.1.pn ≤ Rows.uptoBulk x.1 ∧ 4 ≤ Rows.uptoBulk x.1 := by
  obtain ⟨y0, y1, y2, n, hx1, hl, t0, t1, t2⟩ := trod_struct3 Try.underlying32 hf
  rw [c105u] at hl
  simp only [c3u, c100u, c103u] at t0 t1 t2
  obtain ⟨d, e0, _, wd⟩ := DataW.trod_int Try.underlying3 t0
  obtain ⟨k0, k1, k2, n2, _, hl2, q0, q1, q2⟩ := trod_struct3 Try.underlying26 t1
  simp only [c98u, c3u] at q0 q1 q2
  obtain ⟨e, e1, _, we⟩ := DataW.trod_int Try.underlying24 q0
  obtain ⟨s, e2, _, ws⟩ := DataW.trod_int Try.underlying24 q1
  obtain ⟨m, e3, _, wm⟩ := DataW.trod_int Try.underlying3 q2
  obtain ⟨r0, r1, r2, n3, hx3, hl3, s0, s1, s2⟩ := trod_struct3 Try.underlying30 t2
  simp only [c40u, c101u] at s0 s1 s2
  obtain ⟨lf, e4, hlf, hbf⟩ := sum_of s0
  rw [c100u] at hl2
  rw [c103u] at hl3
  obtain ⟨vw, e5⟩ := one_of (cs := (cs.drop 4).take 18) (k := 16) (by omega)
  obtain ⟨vp, e6⟩ := one_of (cs := (cs.drop 4).take 18) (k := 17) (by omega)
  rw [show (((cs.drop 4).take 18).drop 16).take 1 = [vw] from e5] at s1
  rw [show (((cs.drop 4).take 18).drop 17).take 1 = [vp] from e6] at s2
  obtain ⟨nw, Sw, hSw⟩ := sums_of s1
  obtain ⟨np, Sp, hSp⟩ := sums_of s2
  obtain ⟨wa, wc, rfl, hrw⟩ := hSw
  obtain ⟨pa, pc, rfl, hrp⟩ := hSp
  have b1 := sums_bulk s1
  have b2 := sums_bulk s2
  have b3 : Rows.uptoBulk r1.1 + Rows.uptoBulk r2.1 ≤ Rows.uptoBulk y2.1 := by rw [hx3]; simp only [Rows.uptoBulk, Rows.uptoBulkAll]; omega
  have b5 : 4 ≤ Rows.uptoBulk x.1 := by
    have := bulk_one y0.1
    have := bulk_one y1.1
    have := bulk_one y2.1
    rw [hx1]; simp only [Rows.uptoBulk, Rows.uptoBulkAll]; omega
  have b4 : Rows.uptoBulk y2.1 ≤ Rows.uptoBulk x.1 := by rw [hx1]; simp only [Rows.uptoBulk, Rows.uptoBulkAll]; omega
  refine ⟨(⟨d, e, s, m, lf, wa, nw, wc, pa, np, pc⟩, Sw, Sp), ?_, ⟨hlf, hbf, u32_of we, u32_of ws, ⟨wa, wc, rfl, hrw⟩, ⟨pa, pc, rfl, hrp⟩⟩, by show 17 * nw ≤ _; omega, by show 17 * np ≤ _; omega, b5⟩
  have hk : (cs.drop 1).take 3 = [.int .u32 e, .int .u32 s, .int .i64 m] := by
    match (cs.drop 1).take 3, hl2, e1, e2, e3 with
    | [v0, v1, v2], _, e1, e2, e3 =>
      have g0 := takeU1 e1
      have g1 := takeU1 e2
      have g2 := takeU1 e3
      simp at g0 g1 g2
      rw [g0, g1, g2]
  have hc : (cs.drop 4).take 18 = bv lf ++ [.slice wa nw wc, .slice pa np pc] := by
    have h0 := cut ((cs.drop 4).take 18) 0 16
    have h1 := cut ((cs.drop 4).take 18) 16 1
    have h2 : (((cs.drop 4).take 18).drop 17).take 1 = ((cs.drop 4).take 18).drop 17 := List.take_of_length_le (by rw [List.length_drop]; omega)
    rw [show (((cs.drop 4).take 18).drop 0).take 16 = bv lf from e4, List.drop_zero] at h0
    rw [e5] at h1
    rw [e6] at h2
    rw [← h0, ← h1, ← h2]
    rfl
  have h0 := cut cs 0 1
  have h1 := cut cs 1 3
  have h2 : (cs.drop 4).take 18 = cs.drop 4 := List.take_of_length_le (by simp; omega)
  rw [show (cs.drop 0).take 1 = [.int .i64 d] from e0] at h0
  rw [hk] at h1
  rw [hc] at h2
  rw [List.drop_zero] at h0
  rw [← h0, ← h1, ← h2]
  simp [ec]
theorem row_entriesU0 {a : Option Addr} {len cap n0 : Nat} {xx : DataW H × List MemPlace} (hf : DataW.trod enc Try.prog W 0 (fun _ => true) true n0 22 [.slice a len cap] = some xx) : ∃ f : Nat → E3, HoldsO W a len f ∧ len ≤ cap ∧ 4 * len ≤ Rows.uptoBulk xx.1 ∧ ∀ i, i < len → 17 * (f i).1.wn ≤ Rows.uptoBulk xx.1 ∧ 17 * (f i).1.pn ≤ Rows.uptoBulk xx.1 := by
  rcases open_slice Try.underlying22 hf with ⟨hcs, _⟩ | ⟨x, l, c, m, n, D, Pl, hcs, hb, hl, hm, hmm, hx, hi⟩
  · simp at hcs
    obtain ⟨rfl, rfl, rfl⟩ := hcs
    exact ⟨fun _ => (x0, [], []), ⟨by unfold maxLen; omega, fun i hi => by omega, fun i hi => by omega⟩, by omega, by omega, fun i hi => by omega⟩
  · simp at hcs
    obtain ⟨rfl, rfl, rfl⟩ := hcs
    have hmc : m = cap := by simpa using hmm
    subst hmc
    have each : ∀ i, i < m → ∃ z : E3, W.cells? 0 (x.add (i * 22)) 22 = some (ec z.1) ∧ ELo W z ∧ 17 * z.1.wn ≤ Rows.uptoBulk (D i) ∧ 17 * z.1.pn ≤ Rows.uptoBulk (D i) ∧ 4 ≤ Rows.uptoBulk (D i) := fun i him => by
      obtain ⟨cs, hc, ht⟩ := hi i him
      rw [c105u] at hc
      obtain ⟨z, rfl, hz, h1, h2, h3⟩ := entry_trodU ht
      exact ⟨z, hc, hz, h1, h2, h3⟩
    obtain ⟨f, hf'⟩ : ∃ f : Nat → E3, ∀ i, i < m → W.cells? 0 (x.add (i * 22)) 22 = some (ec (f i).1) ∧ ELo W (f i) ∧ 17 * (f i).1.wn ≤ Rows.uptoBulk (D i) ∧ 17 * (f i).1.pn ≤ Rows.uptoBulk (D i) ∧ 4 ≤ Rows.uptoBulk (D i) := by
      refine ⟨fun i => if h : i < m then Classical.choose (each i h) else (x0, [], []), fun i hi => ?_⟩
      simp only [hi, dif_pos]
      exact Classical.choose_spec (each i hi)
    have hbs : Rows.uptoBulkAll ((List.range len).map D) ≤ Rows.uptoBulk xx.1 := by
      rw [hx]
      simp only [Rows.uptoBulk]
      omega
    have hbl := bulk_many D 4 len (fun i hi => (hf' i (by omega)).2.2.2.2)
    refine ⟨f, ⟨by omega, fun i hi => (hf' i (by omega)).2.1, fun i hi' => ?_⟩, by omega, by omega, fun i hi => ?_⟩
    case refine_2 =>
      have h3 := (hf' i (by omega)).2.2
      have h4 : Rows.uptoBulk (D i) ≤ Rows.uptoBulkAll ((List.range len).map D) := bulk_part (List.mem_map_of_mem (List.mem_range.2 hi))
      omega
    obtain ⟨b, off, spot⟩ := x
    obtain ⟨hc, hok, _, _, _⟩ := hf' i (by omega)
    obtain ⟨_, hcl, hat⟩ := World.cells?_some hc
    obtain ⟨hc0, hok0, _, _, _⟩ := hf' 0 (by omega)
    obtain ⟨_, hcl0, hat0⟩ := World.cells?_some hc0
    have h0 := hat0 0 (by omega)
    rw [ec_0] at h0
    have hspot : spot = none := by simpa [Addr.add] using World.cell?_spot h0
    subst hspot
    have hlt : b < W.heap.size := by
      have := World.block_lt_of_cell? W _ h0
      simpa [Addr.add] using this
    refine ⟨b, off, rfl, hlt, fun j v hv => ?_⟩
    have hj : j < 22 := by
      have h1 := (List.getElem?_eq_some_iff.1 hv).1
      rw [ec_len hok.l] at h1
      exact h1
    have h9 := hat j hj
    have e : (Addr.add { block := b, off := off, spot := none } (i * 22)).add j = ⟨b, off + (i * 22 + j), none⟩ := by rw [add_off, add_off, Nat.add_assoc]
    rw [e, ← Nat.add_assoc] at h9
    rw [h9]
    exact hv
theorem row_entriesU {a : Option Addr} {len cap : Nat} {d : DataW H} {p : List MemPlace} (k : DataW.Trod enc Try.prog W 0 (fun _ => true) true 22 (.slice a len cap) d p) :
    ∃ f : Nat → E3, HoldsO W a len f ∧ len ≤ cap ∧ 4 * len ≤ Rows.uptoBulk d ∧ ∀ i, i < len → 17 * (f i).1.wn ≤ Rows.uptoBulk d ∧ 17 * (f i).1.pn ≤ Rows.uptoBulk d := by
  obtain ⟨n0, hf⟩ := k
  exact row_entriesU0 hf
end
theorem folB_low {last : Int} {x : EV} (h : folB last x = true) : folB (-1) x = true := by
  unfold folB at h ⊢
  simp only [Bool.and_eq_true, decide_eq_true_eq] at h ⊢
  exact ⟨⟨h.1.1, by omega⟩, h.2⟩
theorem updOk_sub {f : Nat → E3} {n k m : Nat} (h : updOk f n = true) (hk : k + m ≤ n) : updOk (sh f k) m = true := by
  unfold updOk at h ⊢
  rw [List.all_eq_true] at h ⊢
  intro j hj
  have hj' : j < m := by simpa using hj
  have h1 := h (k + j) (by simp; omega)
  cases j with
  | zero => exact folB_low h1
  | succ j =>
    have e : lastD (sh f k) (j + 1) = lastD f (k + (j + 1)) := rfl
    rw [e]
    exact h1
theorem updE_sub {f : Nat → E3} {n k m : Nat} (h : updE f n = 0) (hk : k + m ≤ n) : updE (sh f k) m = 0 := by
  obtain ⟨h8, ho⟩ := updE_zero h
  unfold updE
  rw [if_neg (by omega), if_pos (updOk_sub ho hk)]
theorem updX_pos' {u : Bool} {f : Nat → E3} {n : Nat} (h : updE f n = 0) : 0 < (updX u f n).length := by
  unfold updX
  rw [if_pos h]
  unfold updB
  simp only [List.length_append, digs_len]
  omega
theorem fitGo_most (u : Bool) (f : Nat → E3) (most : Int) : ∀ k m, m < fitGo u f most k m → ((updX u f (fitGo u f most k m)).length : Int) ≤ most
  | 0, m, h => absurd h (by unfold fitGo; omega)
  | k + 1, m, h => by
    unfold fitGo at h ⊢
    split at h
    · rename_i h1
      rw [if_pos h1]
      by_cases h2 : m + 1 < fitGo u f most k (m + 1)
      · exact fitGo_most u f most k (m + 1) h2
      · have h3 := (fitGo_le u f most k (m + 1)).1
        rw [show fitGo u f most k (m + 1) = m + 1 by omega]
        exact h1
    · omega
theorem fit_most {u : Bool} {f : Nat → E3} {n : Nat} {most : Int} (h : 1 < fit u f n most) : ((updX u f (fit u f n most)).length : Int) ≤ most := fitGo_most u f most (n - 1) 1 h
/-- Of entries that rise: the next update is there. -/
theorem upds_one {u : Bool} {f : Nat → E3} {most : Int} {N n k : Nat} (h0 : updE f N = 0) (hk : k + n ≤ N) (hn : 0 < n) :
    upds u f most n k = updX u (sh f k) (fit u (sh f k) n most) :: upds u f most (n - fit u (sh f k) n most) (k + fit u (sh f k) n most) := by
  have hm := fit_le (u := u) (f := sh f k) (most := most) hn
  rw [upds_pos u f most n k hn, if_pos (updX_pos' (updE_sub h0 (by omega)))]
  rfl
/-- Two own rows of entries behind one another. -/
theorem EOs.cat {W W' : World} {te t base : Nat} {v v' v2 : Value} {xs zs : List E3} (h : EOs W te t base v xs) (hz : EOs W te t base v2 zs) (ht : t ≠ te)
    (ho : W'.ownsRow base te 22 v' (xs.length + zs.length) (ecs xs ++ ecs zs)) (hg : W.grownBy W' v.ownBlock) : EOs W' te t base v' (xs ++ zs) :=
  ⟨by rw [List.length_append, show ecs (xs ++ zs) = ecs xs ++ ecs zs by simp [ecs]]; exact ho, fun y hy => by
    rcases List.mem_append.1 hy with hy | hy
    · exact (h.e y hy).apart h.v ht hg
    · exact (hz.e y hy).apart h.v ht hg⟩
end Go.Proofs.Ytioeaknhcfkfcaa
