/-
  Offer, where there is no floor: what is kept, with a path that came in.
-/
import Derived.Test.YtfpmmbbbndobiaaRbK
import Derived.Test.YtfpmmbbbndobiaaRbS
namespace Go.Proofs.Ytfpmmbbbndobiaa
open Go.RowKit

theorem Turn.whole {t : Nat} {o : Obj} {w w' : World} (h : Blk w t o) (k : Turn t o w w') : Below w.heap.size w w' :=
  ⟨k.os, k.tape, k.output, k.size, fun i hi => by
    by_cases e : i = t
    · rw [e]; exact (show w'.heap[t]? = _ from k.blk).trans (show w.heap[t]? = _ from h).symm
    · exact k.other i hi e⟩
/-- Beside the table: an offer in a block of its own, and a row of a path behind M. -/
structure BR (B : Nat) (b : OW) (M : Nat) (v : Value) (np : Nat) (pq : List Int) (w : World) : Prop where
  blk : Blk w B b.obj
  row : w.ownsRow M 48 16 v np (bv pq)
theorem ownsRow_same {w w' : World} {M : Nat} {t : TypeId} {s : Nat} {v : Value} {n : Nat} {xs : List Value} (h : w.ownsRow M t s v n xs) (k : ∀ g, M ≤ g → ∀ o, w.heap[g]? = some o → w'.heap[g]? = some o) : w'.ownsRow M t s v n xs :=
  ⟨h.1, h.2.imp id fun ⟨g, cap, cur, e, hb, hg, r⟩ => ⟨g, cap, cur, e, hb, k g hb _ hg, r⟩⟩
theorem get_lt {w : World} {g : Nat} {o : Obj} (h : w.heap[g]? = some o) : g < w.heap.size := (Array.getElem?_eq_some_iff.1 h).1
theorem BR.keep {B M np : Nat} {b : OW} {v : Value} {pq : List Int} {w w' : World} (h : BR B b M v np pq w) (hb : Below w.heap.size w w') : BR B b M v np pq w' :=
  ⟨h.blk.keep hb, ownsRow_same h.row fun g _ o hg => (hb.block g (get_lt hg)).trans hg⟩
theorem BR.draw {B M np : Nat} {b : OW} {v : Value} {pq : List Int} {w : World} (h : BR B b M v np pq w) : BR B b M v np pq w.drew := ⟨h.blk.draw, h.row⟩
theorem BR.turn {B M np t : Nat} {b : OW} {v : Value} {pq : List Int} {o : Obj} {w w' : World} (h : BR B b M v np pq w) (k : Turn t o w w') (h1 : t ≠ B) (h2 : t < M) : BR B b M v np pq w' :=
  ⟨k.keep h.blk h1.symm, ownsRow_same h.row fun g hg o hgo => (k.other g (get_lt hgo) (by omega)).trans hgo⟩
theorem BR.cells {B M np t : Nat} {b : OW} {v : Value} {pq : List Int} {w : World} (h : BR B b M v np pq w) (h1 : t ≠ B) (h2 : t < M) (vs : List Value) (off : Nat) : BR B b M v np pq (w.setCells t off vs) :=
  ⟨Blk.otherCells h1 _ _ _ h.blk, ownsRow_same h.row fun g hg o hgo => Blk.otherCells (x := o) (show t ≠ g by omega) vs off w hgo⟩
theorem HoldsS.row {w : World} {v : Value} {n : Nat} {l : List Int} (h : HoldsS w v n l) : Bytes l ∧ n ≤ maxLen ∧ l.length = n * 16 := by
  obtain ⟨a, cap, h1, h2, h3, h4, h5⟩ := h
  exact ⟨h4, h3, h2⟩
def PutPostN (T : TB) (now : Int) (d f : Nat) (x : KV) (np : Nat) (pq : List Int) (t : Nat) (w : World) (r : Ending) (w' : World) : Prop :=
  ∃ a c, PutPost T now d f { x with pa := a, pn := np, pc := c } t w r w' ∧ w'.ownsRow w.heap.size 48 16 (.slice a np c) np (bv pq)
set_option maxRecDepth 100000 in
set_option maxHeartbeats 6400000 in
theorem offer_puts00 (T : TB) (now : Int) (d f : Nat) (x : KV) (fl : K3) (t : Nat) (w : World) (h : Blk w t T.obj) (hxd : x.d = d) (hv : ofOk T now f x = true) (hwy : T.Ways) (np : Nat) (pq : List Int) (hpa : HoldsS w (.slice x.pa x.pn x.pc) np pq ∧ np ≤ 1000000) (hst : (T.off (d * 8 + f)).stands = false) (hlt : (T.off (d * 8 + f)).until_ ≤ now) : Calls Try.prog 14 #[.pointer (some ⟨t, 0, none⟩), .int .i64 now, .int .i64 f, .agg (knc x).toArray, keyV fl, .bool false] w (PutPostN T now d f x np pq t w) := by
  obtain ⟨hd, hf, b1, b2, b3, b4⟩ := ofOk_parts hxd hv
  have hA := fun (w : World) => box_row (t := 51) (cs := knc x) (info51s x) w
  obtain ⟨A, hAe⟩ : ∃ A, A = w.heap.size := ⟨_, rfl⟩
  obtain ⟨F, hFe⟩ : ∃ F, F = A + 1 := ⟨_, rfl⟩
  obtain ⟨W, hW⟩ : ∃ W, W = (w.alloc x.obj).alloc (.cells (kc fl).toArray 47) := ⟨_, rfl⟩
  have H0 : Kp (OF T t x fl A F w W) := ⟨by
    have := h.lt
    rw [hW]
    exact ⟨((Turn.same h).alloc _).alloc _, (Blk.newAt _ hAe).old _, Blk.newAt _ (by rw [hFe, hAe]; simp), by omega, by omega⟩⟩
  have HE := Kp.mk (And.intro hAe hFe)
  have HW := Kp.mk hW
  obtain ⟨fe, fs, fm⟩ := fl
  have H1 := fun W h1 => other_any T t x.d W h1
  have H2 := fun W h1 => other_any T t f W h1
  have H3 := fun W => kright_any x.k W
  have H4 := fun W => time_any now W
  rw [b1] at H1
  rw [b2] at H2
  rw [b3] at H3
  rw [b4] at H4
  have HD8 := Kp.mk hd
  have HF8 := Kp.mk hf
  have HXD := Kp.mk hxd
  have HWY := Kp.mk hwy
  have HPA := Kp.mk hpa
  have HBT := Kp.mk h
  have hd' : (d : Int) < 8 := by omega
  have hf' : (f : Int) < 8 := by omega
  obtain ⟨o, ho⟩ : ∃ o, o = T.off (d * 8 + f) := ⟨_, rfl⟩
  have HO := Kp.mk ho
  have HOC : Kp (∀ wx, Blk wx t T.obj → wx.cell? ⟨t, 3 + d * 216 + f * 27, none⟩ = some (.bool o.stands) ∧ wx.cell? ⟨t, 3 + d * 216 + f * 27 + 1, none⟩ = some (.int .i64 o.told) ∧ wx.cell? ⟨t, 3 + d * 216 + f * 27 + 23, none⟩ = some (.int .i64 o.until_)) := ⟨fun wx hx => ⟨off_cell (j := 0) hx hd hf (by rw [ho]; rfl), off_cell (j := 1) hx hd hf (by rw [ho]; rfl), off_cell (j := 23) hx hd hf (by rw [ho]; rfl)⟩⟩
  have HOK : Kp (∀ wx, Blk wx t T.obj → wx.rangeAt t (3 + d * 216 + f * 27 + 3) (kc o.kn.k)) := ⟨fun wx hx => by rw [ho]; exact off_key hx hd hf⟩
  have HOL : Kp (∀ wx, Blk wx t T.obj → wx.rangeAt t (3 + d * 216 + f * 27 + 24) (kc o.last)) := ⟨fun wx hx => by rw [ho]; exact off_last hx hd hf⟩
  rw [← ho] at hst hlt
  rw [hst] at HOC
  have hdl : decide (now < o.until_) = false := by simp; omega
  clear hW hAe hFe h hd hf hxd hv hwy hpa b1 b2 b3 b4 ho hst hlt
  go_enter Try.func14, Try.ntmps14
  go_upto_region 1 with (refine wpList_box_eq rfl 51 (.tmp 3) rfl _ rfl _ _ (hA _) ?_)
  rw [← HW.out, ← HE.out.1, ← HE.out.2]
  clear hA HW
  obtain ⟨c0, c1, c2, c3⟩ := H0.out.at
  go_wp2_with fail
  refine (H1 _ H0.out.tt.blk).mono ?_
  rintro r w1 ⟨rfl, rfl⟩
  go_wp2_with fail
  refine (H2 _ H0.out.tt.blk).mono ?_
  rintro r w1 ⟨rfl, rfl⟩
  go_wp2_with fail
  refine (H3 _).mono ?_
  rintro r w3 ⟨rfl, hb⟩
  have K3 := Kp.mk (H0.out.keep hb)
  clear hb H0 c0 c1 c2 c3 H1 H2 H3
  go_wp2_with fail
  refine (H4 _).mono ?_
  rintro r w4 ⟨rfl, rfl⟩
  clear H4
  go_wp2_with fail
  refine wp_region_flow (fun w' => OF T t x ⟨fe, fs, fm⟩ A F w w') (by kernel_rfl) (by kernel_rfl) (by kernel_rfl)
    (fun _ _ h hb => h.keep hb) (K3.out.drew) ?_
  repeat (first
    | (apply Flow.value
       · rfl
       · (intro wx hS; obtain ⟨c0, c1, c2, c3⟩ := hS.at; rw [HXD.out] at c0; obtain ⟨p0, p1, p23⟩ := HOC.out _ hS.tt.blk; go_simp; with_reducible rfl)
       try simp only [Act.put, List.setIfInBounds_toArray, List.set_cons_zero, List.set_cons_succ]))
  refine Flow.done ?_
  intro w5 hS
  have K5 := Kp.mk hS
  clear hS K3
  go_wp2_with fail
  refine wp_region_flow (fun w' => OF T t x ⟨fe, fs, fm⟩ A F w w') (by kernel_rfl) (by kernel_rfl) (by kernel_rfl)
    (fun _ _ h hb => h.keep hb) (K5.out.drew) ?_
  repeat (first
    | (apply Flow.idle
       · rfl
       try simp only [Act.put, List.setIfInBounds_toArray, List.set_cons_zero, List.set_cons_succ])
    | (apply Flow.value
       · rfl
       · (intro wx hS; exact exec_load_mid (cs := kc o.kn.k) rfl rfl (HOK.out _ hS.tt.blk) Try.underlying47 rfl (by kernel_rfl))
       try simp only [Act.put, List.setIfInBounds_toArray, List.set_cons_zero, List.set_cons_succ])
    | (apply Flow.value
       · rfl
       · (intro wx hS; exact exec_load_mid (cs := kc x.k) rfl rfl (Blk.range (cs := knc x) (o := 1) hS.a rfl) Try.underlying47 rfl (by kernel_rfl))
       try simp only [Act.put, List.setIfInBounds_toArray, List.set_cons_zero, List.set_cons_succ])
    | (apply Flow.value
       · rfl
       · (intro wx hS; obtain ⟨c0, c1, c2, c3⟩ := hS.at; rw [HXD.out] at c0; obtain ⟨p0, p1, p23⟩ := HOC.out _ hS.tt.blk; go_simp; with_reducible rfl)
       try simp only [Act.put, List.setIfInBounds_toArray, List.set_cons_zero, List.set_cons_succ]))
  refine Flow.done ?_
  intro w6 hS
  have K6 := Kp.mk hS
  clear hS K5
  go_wp2_with fail
  refine wp_region_flow (fun w' => OF T t x ⟨fe, fs, fm⟩ A F w w') (by kernel_rfl) (by kernel_rfl) (by kernel_rfl)
    (fun _ _ h hb => h.keep hb) (K6.out.drew) ?_
  repeat (first
    | (apply Flow.idle
       · rfl
       try simp only [Act.put, List.setIfInBounds_toArray, List.set_cons_zero, List.set_cons_succ])
    | (apply Flow.value
       · rfl
       · (intro wx hS; exact exec_load_mid (cs := kc o.last) rfl rfl (HOL.out _ hS.tt.blk) Try.underlying47 rfl (by kernel_rfl))
       try simp only [Act.put, List.setIfInBounds_toArray, List.set_cons_zero, List.set_cons_succ])
    | (apply Flow.value
       · rfl
       · (intro wx hS; exact exec_load_mid (cs := kc x.k) rfl rfl (Blk.range (cs := knc x) (o := 1) hS.a rfl) Try.underlying47 rfl (by kernel_rfl))
       try simp only [Act.put, List.setIfInBounds_toArray, List.set_cons_zero, List.set_cons_succ])
    | (apply Flow.value
       · rfl
       · (intro wx hS; obtain ⟨c0, c1, c2, c3⟩ := hS.at; rw [HXD.out] at c0; obtain ⟨p0, p1, p23⟩ := HOC.out _ hS.tt.blk; go_simp; with_reducible rfl)
       try simp only [Act.put, List.setIfInBounds_toArray, List.set_cons_zero, List.set_cons_succ]))
  refine Flow.done ?_
  intro w8 hS
  have K8 := Kp.mk hS
  clear hS K6 hdl
  go_wp2_with fail
  refine wp_region_flow (fun w' => OF T t x ⟨fe, fs, fm⟩ A F w w') (by kernel_rfl) (by kernel_rfl) (by kernel_rfl)
    (fun _ _ h hb => h.keep hb) (K8.out.drew) ?_
  repeat (first
    | (apply Flow.idle
       · rfl
       try simp only [Act.put, List.setIfInBounds_toArray, List.set_cons_zero, List.set_cons_succ])
    | (apply Flow.value
       · rfl
       · (intro wx hS; exact exec_load_mid (cs := kc o.kn.k) rfl rfl (HOK.out _ hS.tt.blk) Try.underlying47 rfl (by kernel_rfl))
       try simp only [Act.put, List.setIfInBounds_toArray, List.set_cons_zero, List.set_cons_succ])
    | (apply Flow.value
       · rfl
       · (intro wx hS; exact exec_load_mid (cs := kc x.k) rfl rfl (Blk.range (cs := knc x) (o := 1) hS.a rfl) Try.underlying47 rfl (by kernel_rfl))
       try simp only [Act.put, List.setIfInBounds_toArray, List.set_cons_zero, List.set_cons_succ])
    | (apply Flow.value
       · rfl
       · (intro wx hS; obtain ⟨c0, c1, c2, c3⟩ := hS.at; rw [HXD.out] at c0; obtain ⟨p0, p1, p23⟩ := HOC.out _ hS.tt.blk; go_simp; with_reducible rfl)
       try simp only [Act.put, List.setIfInBounds_toArray, List.set_cons_zero, List.set_cons_succ]))
  refine Flow.done ?_
  intro w10 hS
  have K10 := Kp.mk hS
  clear hS K8
  obtain ⟨n, hn⟩ : ∃ n : Nat, T.way d = n := ⟨(T.way d).toNat, by have := HWY.out d HD8.out; omega⟩
  have HNW9 : Kp (T.way d = n ∧ n < 8) := ⟨hn, by have := HWY.out d HD8.out; omega⟩
  have hn8 : (n : Int) < 8 := by have := HNW9.out.2; omega
  obtain ⟨b, hb⟩ : ∃ b, b = T.off (d * 8 + n) := ⟨_, rfl⟩
  have HBE := Kp.mk hb
  have HLK : Kp (lkO T d = b) := ⟨by unfold lkO; rw [hn, hb]; rfl⟩
  clear hn hb
  go_wp2_with fail
  refine wp_region_held_drew (S := OF T t x ⟨fe, fs, fm⟩ A F w) (by kernel_rfl) (K10.out.drew) (fun hH => ?_)
  refine wpAnyH_take (i := 0) (oi := { dst := some 107, op := Go.Op.move (Go.Operand.tmp 0), type := 25, pos := "offer.go:37", after := #[], guard := none }) (v := .pointer (some ⟨t, 0, none⟩)) rfl (by kernel_rfl) (by kernel_rfl) (by kernel_rfl) (fun _ _ _ h => h) (Or.inl ⟨by rfl, fun w hS => by go_simp⟩) hH ?_
  simp only [Act.put, List.setIfInBounds_toArray, List.set_cons_zero, List.set_cons_succ]
  refine wpAnyH_take (i := 1) (oi := { dst := some 108, op := Go.Op.fieldAddr 51 (Go.Operand.tmp 9) 0, type := 0, pos := "offer.go:37", after := #[], guard := none }) (v := .pointer (some ⟨A, 0, none⟩)) rfl (by kernel_rfl) (by kernel_rfl) (by kernel_rfl) (fun _ _ _ h => h) (Or.inl ⟨by rfl, fun w hS => by go_simp⟩) hH ?_
  simp only [Act.put, List.setIfInBounds_toArray, List.set_cons_zero, List.set_cons_succ]
  refine wpAnyH_take (i := 2) (oi := { dst := some 109, op := Go.Op.load 3 (Go.Operand.tmp 108), type := 3, pos := "offer.go:37", after := #[{ on := 1, ground := Go.Ground.data }], guard := none }) (v := .int .i64 d) rfl (by kernel_rfl) (by kernel_rfl) (by kernel_rfl) (fun _ _ _ h => h) (Or.inl ⟨by rfl, fun w hS => by obtain ⟨c0, c1, c2, c3⟩ := hS.at; rw [HXD.out] at c0; go_simp⟩) hH ?_
  simp only [Act.put, List.setIfInBounds_toArray, List.set_cons_zero, List.set_cons_succ]
  refine wpAnyH_take (i := 3) (oi := { dst := some 110, op := Go.Op.move (Go.Operand.tmp 0), type := 25, pos := "offer.go:37", after := #[], guard := none }) (v := .pointer (some ⟨t, 0, none⟩)) rfl (by kernel_rfl) (by kernel_rfl) (by kernel_rfl) (fun _ _ _ h => h) (Or.inl ⟨by rfl, fun w hS => by go_simp⟩) hH ?_
  simp only [Act.put, List.setIfInBounds_toArray, List.set_cons_zero, List.set_cons_succ]
  refine wpAnyH_take (i := 4) (oi := { dst := some 111, op := Go.Op.fieldAddr 51 (Go.Operand.tmp 9) 0, type := 0, pos := "offer.go:37", after := #[], guard := none }) (v := .pointer (some ⟨A, 0, none⟩)) rfl (by kernel_rfl) (by kernel_rfl) (by kernel_rfl) (fun _ _ _ h => h) (Or.inl ⟨by rfl, fun w hS => by go_simp⟩) hH ?_
  simp only [Act.put, List.setIfInBounds_toArray, List.set_cons_zero, List.set_cons_succ]
  refine wpAnyH_take (i := 5) (oi := { dst := some 112, op := Go.Op.load 3 (Go.Operand.tmp 111), type := 3, pos := "offer.go:37", after := #[{ on := 4, ground := Go.Ground.data }], guard := none }) (v := .int .i64 d) rfl (by kernel_rfl) (by kernel_rfl) (by kernel_rfl) (fun _ _ _ h => h) (Or.inl ⟨by rfl, fun w hS => by obtain ⟨c0, c1, c2, c3⟩ := hS.at; rw [HXD.out] at c0; go_simp⟩) hH ?_
  simp only [Act.put, List.setIfInBounds_toArray, List.set_cons_zero, List.set_cons_succ]
  refine wpAnyH_take (i := 6) (oi := { dst := some 113, op := Go.Op.nilCheck (Go.Operand.tmp 110), type := 0, pos := "offer.go:37", after := #[{ on := 3, ground := Go.Ground.data }], guard := none }) (v := .pointer (some ⟨t, 0, none⟩)) rfl (by kernel_rfl) (by kernel_rfl) (by kernel_rfl) (fun _ _ _ h => h) (Or.inl ⟨by rfl, fun w hS => by go_simp⟩) hH ?_
  simp only [Act.put, List.setIfInBounds_toArray, List.set_cons_zero, List.set_cons_succ]
  refine wpAnyH_take (i := 7) (oi := { dst := some 114, op := Go.Op.fieldAddr 105 (Go.Operand.tmp 113) 3, type := 0, pos := "offer.go:37", after := #[{ on := 6, ground := Go.Ground.data }], guard := none }) (v := .pointer (some ⟨t, 1731, none⟩)) rfl (by kernel_rfl) (by kernel_rfl) (by kernel_rfl) (fun _ _ _ h => h) (Or.inl ⟨by rfl, fun w hS => by go_simp⟩) hH ?_
  simp only [Act.put, List.setIfInBounds_toArray, List.set_cons_zero, List.set_cons_succ]
  refine wpAnyH_take (i := 8) (oi := { dst := some 115, op := Go.Op.indexAddr 34 (Go.Operand.tmp 114) (Go.Operand.tmp 112), type := 0, pos := "offer.go:37", after := #[{ on := 7, ground := Go.Ground.data }, { on := 5, ground := Go.Ground.data }], guard := none }) (v := .pointer (some ⟨t, 1731 + d, none⟩)) rfl (by kernel_rfl) (by kernel_rfl) (by kernel_rfl) (fun _ _ _ h => h) (Or.inl ⟨by rfl, fun w hS => by go_simp⟩) hH ?_
  simp only [Act.put, List.setIfInBounds_toArray, List.set_cons_zero, List.set_cons_succ]
  refine wpAnyH_take (i := 9) (oi := { dst := some 116, op := Go.Op.load 3 (Go.Operand.tmp 115), type := 3, pos := "offer.go:37", after := #[{ on := 8, ground := Go.Ground.data }], guard := none }) (v := .int .i64 n) rfl (by kernel_rfl) (by kernel_rfl) (by kernel_rfl) (fun _ _ _ h => h) (Or.inl ⟨by rfl, fun w hS => by have c9 : w.cell? ⟨t, 1731 + d, none⟩ = some (.int .i64 n) := (hS.tt.blk.cell _).trans (by rw [List.getElem?_toArray, tc_way T HD8.out, HNW9.out.1]); go_simp⟩) hH ?_
  simp only [Act.put, List.setIfInBounds_toArray, List.set_cons_zero, List.set_cons_succ]
  refine wpAnyH_take (i := 10) (oi := { dst := some 117, op := Go.Op.nilCheck (Go.Operand.tmp 107), type := 0, pos := "offer.go:37", after := #[{ on := 0, ground := Go.Ground.data }], guard := none }) (v := .pointer (some ⟨t, 0, none⟩)) rfl (by kernel_rfl) (by kernel_rfl) (by kernel_rfl) (fun _ _ _ h => h) (Or.inl ⟨by rfl, fun w hS => by go_simp⟩) hH ?_
  simp only [Act.put, List.setIfInBounds_toArray, List.set_cons_zero, List.set_cons_succ]
  refine wpAnyH_take (i := 11) (oi := { dst := some 118, op := Go.Op.fieldAddr 105 (Go.Operand.tmp 117) 2, type := 0, pos := "offer.go:37", after := #[{ on := 10, ground := Go.Ground.data }], guard := none }) (v := .pointer (some ⟨t, 3, none⟩)) rfl (by kernel_rfl) (by kernel_rfl) (by kernel_rfl) (fun _ _ _ h => h) (Or.inl ⟨by rfl, fun w hS => by go_simp⟩) hH ?_
  simp only [Act.put, List.setIfInBounds_toArray, List.set_cons_zero, List.set_cons_succ]
  refine wpAnyH_take (i := 12) (oi := { dst := some 119, op := Go.Op.indexAddr 103 (Go.Operand.tmp 118) (Go.Operand.tmp 109), type := 0, pos := "offer.go:37", after := #[{ on := 11, ground := Go.Ground.data }, { on := 2, ground := Go.Ground.data }], guard := none }) (v := .pointer (some ⟨t, 3 + d * 216, none⟩)) rfl (by kernel_rfl) (by kernel_rfl) (by kernel_rfl) (fun _ _ _ h => h) (Or.inl ⟨by rfl, fun w hS => by go_simp⟩) hH ?_
  simp only [Act.put, List.setIfInBounds_toArray, List.set_cons_zero, List.set_cons_succ]
  refine wpAnyH_take (i := 13) (oi := { dst := some 120, op := Go.Op.indexAddr 102 (Go.Operand.tmp 119) (Go.Operand.tmp 116), type := 0, pos := "offer.go:37", after := #[{ on := 12, ground := Go.Ground.data }, { on := 9, ground := Go.Ground.data }], guard := none }) (v := .pointer (some ⟨t, 3 + d * 216 + n * 27, none⟩)) rfl (by kernel_rfl) (by kernel_rfl) (by kernel_rfl) (fun _ _ _ h => h) (Or.inl ⟨by rfl, fun w hS => by go_simp⟩) hH ?_
  simp only [Act.put, List.setIfInBounds_toArray, List.set_cons_zero, List.set_cons_succ]
  refine wpAnyH_take (i := 14) (oi := { dst := some 121, op := Go.Op.load 101 (Go.Operand.tmp 120), type := 101, pos := "offer.go:37", after := #[{ on := 13, ground := Go.Ground.data }], guard := none }) (v := .agg (owc b).toArray) rfl (by kernel_rfl) (by kernel_rfl) (by kernel_rfl) (fun _ _ _ h => h) (Or.inl ⟨by rfl, fun w hS => exec_load_mid (cs := owc b) rfl rfl (by rw [HBE.out]; exact off_range hS.tt.blk HD8.out HNW9.out.2) Try.underlying101 rfl (by kernel_rfl)⟩) hH ?_
  simp only [Act.put, List.setIfInBounds_toArray, List.set_cons_zero, List.set_cons_succ]
  refine wpAnyH_ready (rs := [15]) (by kernel_rfl) (by simp) ?_
  refine AllReadyH.cons (o := { dst := some 15, op := Go.Op.alloc 101, type := 0, pos := "offer.go:37", after := #[], guard := none }) rfl (fun K hK => ?_) AllReadyH.nil
  refine wp_alloc_rowO 101 rfl (owc ow0).toArray 27 info101z ?_
  have K11 : Kp (OF T t x ⟨fe, fs, fm⟩ A F w (w10.drew.alloc ow0.obj) ∧ Blk (w10.drew.alloc ow0.obj) w10.drew.heap.size ow0.obj) := ⟨K10.out.drew.keep (more (Below.refl _ _) _), Blk.new _ _⟩
  refine hK.out _ _ (K11.out.1) (fun hHn => ?_)
  clear hK K hH
  have hH := hHn
  clear hHn
  try simp only [Act.put, List.setIfInBounds_toArray, List.set_cons_zero, List.set_cons_succ]
  refine wpAnyH_ready (rs := [16]) (by kernel_rfl) (by simp) ?_
  refine AllReadyH.cons (o := { dst := none, op := Go.Op.store 101 (Go.Operand.tmp 15) (Go.Operand.tmp 121), type := 0, pos := "offer.go:37", after := #[{ on := 15, ground := Go.Ground.data }, { on := 14, ground := Go.Ground.data }, { on := 0, ground := Go.Ground.phase }, { on := 1, ground := Go.Ground.phase }, { on := 2, ground := Go.Ground.phase }, { on := 3, ground := Go.Ground.phase }, { on := 4, ground := Go.Ground.phase }, { on := 5, ground := Go.Ground.phase }, { on := 6, ground := Go.Ground.phase }, { on := 7, ground := Go.Ground.phase }, { on := 8, ground := Go.Ground.phase }, { on := 9, ground := Go.Ground.phase }, { on := 10, ground := Go.Ground.phase }, { on := 11, ground := Go.Ground.phase }, { on := 12, ground := Go.Ground.phase }, { on := 13, ground := Go.Ground.phase }, { on := 14, ground := Go.Ground.phase }, { on := 15, ground := Go.Ground.phase }], guard := none }) rfl (fun K hK => ?_) AllReadyH.nil
  refine wp_store_row 101 (.tmp 15) (.tmp 121) rfl w10.drew.heap.size (owc b).toArray rfl rfl 101 _ K11.out.2 (info101s b) rfl (all_oneCell_toArray (owc_one b)) ?_
  rw [World.setRow_alloc_new]
  have K12 : Kp (OF T t x ⟨fe, fs, fm⟩ A F w (w10.drew.alloc b.obj) ∧ Blk (w10.drew.alloc b.obj) w10.drew.heap.size b.obj) := ⟨K10.out.drew.keep (more (Below.refl _ _) _), Blk.new _ _⟩
  refine hK.out _ _ (K12.out.1) (fun hHn => ?_)
  clear hK K hH
  have hH := hHn
  clear hHn
  try simp only [Act.put]
  clear hH
  refine wpAnyH_done (by kernel_rfl) ?_ _
  clear K10 K11
  obtain ⟨B, hB⟩ : ∃ B, B = w10.heap.size := ⟨_, rfl⟩
  have hB1 : w10.drew.heap.size = B := hB.symm
  have hB2 : w10.heap.size = B := hB.symm
  rw [hB1] at K12
  try rw [hB1]
  try rw [hB2]
  clear hB hB1 hB2
  have K13 := K12
  clear K12
  revert K13
  generalize w10.drew.alloc b.obj = w13
  intro K13
  have HTB : Kp (t ≠ B) := ⟨fun e => by
    have h1 := K13.out.1.tt.blk
    have h2 := K13.out.2
    rw [← e] at h2
    have h3 := (show w13.heap[t]? = _ from h1).symm.trans h2
    injection h3 with e
    injection e with _ e
    exact absurd e (by decide)⟩
  go_wp2_with (refine wpList_load_row rfl 51 (.tmp 9) rfl A rfl 51 (knc x).toArray (0, 0) _ K13.out.1.a Try.underlying51 rfl (info51s x) ?_)
  have HBW := Turn.whole HBT.out K13.out.1.tt
  refine (copied_any x np pq _ (HPA.out.1.keep HBW) HPA.out.2).mono ?_
  rintro r w14 ⟨ya, yc, rfl, hrow, hb⟩
  obtain ⟨y, hy⟩ : ∃ y : KV, y = { x with pa := ya, pn := np, pc := yc } := ⟨_, rfl⟩
  rw [← hy]
  have HY := Kp.mk hy
  have HYK : Kp (y.k = x.k) := ⟨by rw [hy]⟩
  have HTM : Kp (t < w.heap.size) := ⟨HBT.out.lt⟩
  have K14 : Kp (OF T t x ⟨fe, fs, fm⟩ A F w w14 ∧ BR B b w.heap.size (.slice ya np yc) np pq w14) := ⟨K13.out.1.keep hb, K13.out.2.keep hb, ownsRow_down HBW.size hrow⟩
  clear hb K13 hrow HBW hy
  obtain ⟨T1, hT1⟩ : ∃ T1, T1 = T.putO (d * 8 + f) (nwO now y) := ⟨_, rfl⟩
  obtain ⟨n2, hn2⟩ : ∃ n2 : Nat, n2 = turnUp T1 d 8 := ⟨_, rfl⟩
  obtain ⟨T2, hT2⟩ : ∃ T2, T2 = T1.putW d n2 := ⟨_, rfl⟩
  have HPP : Kp (∀ r w', OfPost (if (n2 : Nat) ≠ f then 1 else turnedV b x.k) 0 T2 t w r w' → BR B b w.heap.size (.slice ya np yc) np pq w' → PutPostN T now d f x np pq t w r w') := ⟨fun r w' hx hbr => by
    refine ⟨ya, yc, ?_, hbr.row⟩
    unfold PutPost
    rw [← HY.out]
    rw [← hT1, ← hn2, ← hT2, HLK.out, HYK.out]
    exact hx⟩
  have HT1 := Kp.mk hT1
  have HN2 := Kp.mk (And.intro hn2 hT2)
  have HW1 : Kp (0 ≤ T1.way d ∧ T1.way d < 8) := ⟨by rw [hT1]; exact HWY.out d HD8.out⟩
  have HN2C : Kp (∀ wx, Blk wx t T2.obj → wx.cell? ⟨t, 1731 + d, none⟩ = some (.int .i64 n2)) := ⟨fun wx hx => (hx.cell _).trans (by rw [List.getElem?_toArray, tc_way T2 HD8.out, hT2]; simp [TB.putW])⟩
  clear hT1 hn2 hT2
  go_upto_region 15 with (first
    | (refine wpList_build_eq rfl 101 #[(0, .const (.bool true)), (1, .tmp 123), (2, .tmp 125)] rfl #[(0, .bool true), (1, .int .i64 now), (2, .agg (knc y).toArray)] (by simp only [List.map_toArray, List.map_cons, List.map_nil]; rfl) (owc (nwO now y)).toArray (builtO now y) ?_)
    | (refine wpList_store_mid rfl 101 (.tmp 127) (.tmp 126) rfl t (3 + d * 216 + f * 27) (owc (nwO now y)).toArray rfl rfl (Blk.there K14.out.1.tt.blk (by rw [tc_len]; have := HD8.out; have := HF8.out; show 3 + d * 216 + f * 27 + 27 ≤ 1739; omega)) (info101s _) (all_oneCell_toArray (owc_one _)) ?_
       have K15 : Kp (OF T1 t x ⟨fe, fs, fm⟩ A F w (w14.setCells t (3 + d * 216 + f * 27) (owc (nwO now y)).toArray.toList) ∧ BR B b w.heap.size (.slice ya np yc) np pq (w14.setCells t (3 + d * 216 + f * 27) (owc (nwO now y)).toArray.toList)) := ⟨K14.out.1.turn (by rw [HT1.out]; exact (Turn.same K14.out.1.tt.blk).putO HD8.out HF8.out (nwO now y)), K14.out.2.cells HTB.out HTM.out _ _⟩
       revert K15
       generalize World.setCells _ _ _ _ = w15
       intro K15))
  clear K14
  obtain ⟨c0, c1, c2, c3⟩ := K15.out.1.at
  rw [HXD.out] at c0
  go_wp2_with fail
  refine (turn_any T1 t d _ K15.out.1.tt.blk HD8.out HW1.out).mono ?_
  rintro r w16 ⟨rfl, hT⟩
  rw [← HN2.out.1, ← HN2.out.2] at hT
  have K15' : Kp (OF T2 t x ⟨fe, fs, fm⟩ A F w w16 ∧ BR B b w.heap.size (.slice ya np yc) np pq w16) := ⟨K15.out.1.turn hT, K15.out.2.turn hT HTB.out HTM.out⟩
  clear hT K15 c0 c1 c2 c3
  have K15 := K15'
  clear K15'
  go_wp2_with fail
  by_cases hnf : n2 = f
  · have hne : ((n2 : Int) != (f : Int)) = false := by simp [hnf]
    have HV : Kp ((if (n2 : Nat) ≠ f then 1 else turnedV b x.k) = turnedV b x.k) := ⟨by simp [hnf]⟩
    clear hnf
    refine wp_region_flow (fun w' => OF T2 t x ⟨fe, fs, fm⟩ A F w w' ∧ BR B b w.heap.size (.slice ya np yc) np pq w') (by kernel_rfl) (by kernel_rfl) (by kernel_rfl)
      (fun _ _ h hb => ⟨h.1.keep hb, h.2.keep hb⟩) (⟨K15.out.1.drew, K15.out.2.draw⟩) ?_
    repeat (first
      | (apply Flow.value
         · rfl
         · (intro wx hS; obtain ⟨c0, c1, c2, c3⟩ := hS.1.at; rw [HXD.out] at c0; have c9 := HN2C.out _ hS.1.tt.blk; go_simp; with_reducible rfl)
         try simp only [Act.put, List.setIfInBounds_toArray, List.set_cons_zero, List.set_cons_succ]))
    refine Flow.done ?_
    intro w17 hS
    have K17 := Kp.mk hS
    clear hS hne K15
    obtain ⟨c0, c1, c2, c3⟩ := K17.out.1.at
    go_wp2_with (refine wpList_load_row rfl 101 (.tmp 15) rfl B rfl 101 (owc b).toArray (0, 0) _ K17.out.2.blk Try.underlying101 rfl (info101s b) ?_)
    refine (turned_any b x.k _).mono ?_
    rintro r w18 ⟨rfl, hb⟩
    have K18 := Kp.mk (And.intro (K17.out.1.tt.more hb) (K17.out.2.keep hb))
    clear hb K17 c0 c1 c2 c3
    go_wp2_with fail
    go_ret2
    exact HPP.out _ _ ⟨by rw [HV.out]; rfl, K18.out.1⟩ K18.out.2
  · have hne : ((n2 : Int) != (f : Int)) = true := by simp; omega
    have HV : Kp ((if (n2 : Nat) ≠ f then 1 else turnedV b x.k) = 1) := ⟨by simp [hnf]⟩
    clear hnf
    refine wp_region_flow (fun w' => OF T2 t x ⟨fe, fs, fm⟩ A F w w' ∧ BR B b w.heap.size (.slice ya np yc) np pq w') (by kernel_rfl) (by kernel_rfl) (by kernel_rfl)
      (fun _ _ h hb => ⟨h.1.keep hb, h.2.keep hb⟩) (⟨K15.out.1.drew, K15.out.2.draw⟩) ?_
    repeat (first
      | (apply Flow.value
         · rfl
         · (intro wx hS; obtain ⟨c0, c1, c2, c3⟩ := hS.1.at; rw [HXD.out] at c0; have c9 := HN2C.out _ hS.1.tt.blk; go_simp; with_reducible rfl)
         try simp only [Act.put, List.setIfInBounds_toArray, List.set_cons_zero, List.set_cons_succ]))
    refine Flow.done ?_
    intro w17 hS
    have K17 := Kp.mk (And.intro hS.1.tt hS.2)
    clear hS hne K15
    go_wp2_with fail
    go_ret2
    exact HPP.out _ _ ⟨by rw [HV.out]; rfl, K17.out.1⟩ K17.out.2
set_option maxRecDepth 100000 in
set_option maxHeartbeats 6400000 in
theorem offer_puts01 (T : TB) (now : Int) (d f : Nat) (x : KV) (fl : K3) (t : Nat) (w : World) (h : Blk w t T.obj) (hxd : x.d = d) (hv : ofOk T now f x = true) (hwy : T.Ways) (np : Nat) (pq : List Int) (hpa : HoldsS w (.slice x.pa x.pn x.pc) np pq ∧ np ≤ 1000000) (hst : (T.off (d * 8 + f)).stands = false) (hlt : now < (T.off (d * 8 + f)).until_) (hnw : nwB x.k (T.off (d * 8 + f)).last = true) : Calls Try.prog 14 #[.pointer (some ⟨t, 0, none⟩), .int .i64 now, .int .i64 f, .agg (knc x).toArray, keyV fl, .bool false] w (PutPostN T now d f x np pq t w) := by
  obtain ⟨hd, hf, b1, b2, b3, b4⟩ := ofOk_parts hxd hv
  have hA := fun (w : World) => box_row (t := 51) (cs := knc x) (info51s x) w
  obtain ⟨A, hAe⟩ : ∃ A, A = w.heap.size := ⟨_, rfl⟩
  obtain ⟨F, hFe⟩ : ∃ F, F = A + 1 := ⟨_, rfl⟩
  obtain ⟨W, hW⟩ : ∃ W, W = (w.alloc x.obj).alloc (.cells (kc fl).toArray 47) := ⟨_, rfl⟩
  have H0 : Kp (OF T t x fl A F w W) := ⟨by
    have := h.lt
    rw [hW]
    exact ⟨((Turn.same h).alloc _).alloc _, (Blk.newAt _ hAe).old _, Blk.newAt _ (by rw [hFe, hAe]; simp), by omega, by omega⟩⟩
  have HE := Kp.mk (And.intro hAe hFe)
  have HW := Kp.mk hW
  obtain ⟨fe, fs, fm⟩ := fl
  have H1 := fun W h1 => other_any T t x.d W h1
  have H2 := fun W h1 => other_any T t f W h1
  have H3 := fun W => kright_any x.k W
  have H4 := fun W => time_any now W
  rw [b1] at H1
  rw [b2] at H2
  rw [b3] at H3
  rw [b4] at H4
  have HD8 := Kp.mk hd
  have HF8 := Kp.mk hf
  have HXD := Kp.mk hxd
  have HWY := Kp.mk hwy
  have HPA := Kp.mk hpa
  have HBT := Kp.mk h
  have hd' : (d : Int) < 8 := by omega
  have hf' : (f : Int) < 8 := by omega
  obtain ⟨o, ho⟩ : ∃ o, o = T.off (d * 8 + f) := ⟨_, rfl⟩
  have HO := Kp.mk ho
  have HOC : Kp (∀ wx, Blk wx t T.obj → wx.cell? ⟨t, 3 + d * 216 + f * 27, none⟩ = some (.bool o.stands) ∧ wx.cell? ⟨t, 3 + d * 216 + f * 27 + 1, none⟩ = some (.int .i64 o.told) ∧ wx.cell? ⟨t, 3 + d * 216 + f * 27 + 23, none⟩ = some (.int .i64 o.until_)) := ⟨fun wx hx => ⟨off_cell (j := 0) hx hd hf (by rw [ho]; rfl), off_cell (j := 1) hx hd hf (by rw [ho]; rfl), off_cell (j := 23) hx hd hf (by rw [ho]; rfl)⟩⟩
  have HOK : Kp (∀ wx, Blk wx t T.obj → wx.rangeAt t (3 + d * 216 + f * 27 + 3) (kc o.kn.k)) := ⟨fun wx hx => by rw [ho]; exact off_key hx hd hf⟩
  have HOL : Kp (∀ wx, Blk wx t T.obj → wx.rangeAt t (3 + d * 216 + f * 27 + 24) (kc o.last)) := ⟨fun wx hx => by rw [ho]; exact off_last hx hd hf⟩
  rw [← ho] at hst hlt hnw
  rw [hst] at HOC
  have hdl : decide (now < o.until_) = true := by simp; omega
  have HNW := fun wx => newer_any x.k o.last wx
  rw [hnw] at HNW
  clear hW hAe hFe h hd hf hxd hv hwy hpa b1 b2 b3 b4 ho hst hlt hnw
  go_enter Try.func14, Try.ntmps14
  go_upto_region 1 with (refine wpList_box_eq rfl 51 (.tmp 3) rfl _ rfl _ _ (hA _) ?_)
  rw [← HW.out, ← HE.out.1, ← HE.out.2]
  clear hA HW
  obtain ⟨c0, c1, c2, c3⟩ := H0.out.at
  go_wp2_with fail
  refine (H1 _ H0.out.tt.blk).mono ?_
  rintro r w1 ⟨rfl, rfl⟩
  go_wp2_with fail
  refine (H2 _ H0.out.tt.blk).mono ?_
  rintro r w1 ⟨rfl, rfl⟩
  go_wp2_with fail
  refine (H3 _).mono ?_
  rintro r w3 ⟨rfl, hb⟩
  have K3 := Kp.mk (H0.out.keep hb)
  clear hb H0 c0 c1 c2 c3 H1 H2 H3
  go_wp2_with fail
  refine (H4 _).mono ?_
  rintro r w4 ⟨rfl, rfl⟩
  clear H4
  go_wp2_with fail
  refine wp_region_flow (fun w' => OF T t x ⟨fe, fs, fm⟩ A F w w') (by kernel_rfl) (by kernel_rfl) (by kernel_rfl)
    (fun _ _ h hb => h.keep hb) (K3.out.drew) ?_
  repeat (first
    | (apply Flow.value
       · rfl
       · (intro wx hS; obtain ⟨c0, c1, c2, c3⟩ := hS.at; rw [HXD.out] at c0; obtain ⟨p0, p1, p23⟩ := HOC.out _ hS.tt.blk; go_simp; with_reducible rfl)
       try simp only [Act.put, List.setIfInBounds_toArray, List.set_cons_zero, List.set_cons_succ]))
  refine Flow.done ?_
  intro w5 hS
  have K5 := Kp.mk hS
  clear hS K3
  go_wp2_with fail
  refine wp_region_flow (fun w' => OF T t x ⟨fe, fs, fm⟩ A F w w') (by kernel_rfl) (by kernel_rfl) (by kernel_rfl)
    (fun _ _ h hb => h.keep hb) (K5.out.drew) ?_
  repeat (first
    | (apply Flow.idle
       · rfl
       try simp only [Act.put, List.setIfInBounds_toArray, List.set_cons_zero, List.set_cons_succ])
    | (apply Flow.value
       · rfl
       · (intro wx hS; exact exec_load_mid (cs := kc o.kn.k) rfl rfl (HOK.out _ hS.tt.blk) Try.underlying47 rfl (by kernel_rfl))
       try simp only [Act.put, List.setIfInBounds_toArray, List.set_cons_zero, List.set_cons_succ])
    | (apply Flow.value
       · rfl
       · (intro wx hS; exact exec_load_mid (cs := kc x.k) rfl rfl (Blk.range (cs := knc x) (o := 1) hS.a rfl) Try.underlying47 rfl (by kernel_rfl))
       try simp only [Act.put, List.setIfInBounds_toArray, List.set_cons_zero, List.set_cons_succ])
    | (apply Flow.value
       · rfl
       · (intro wx hS; obtain ⟨c0, c1, c2, c3⟩ := hS.at; rw [HXD.out] at c0; obtain ⟨p0, p1, p23⟩ := HOC.out _ hS.tt.blk; go_simp; with_reducible rfl)
       try simp only [Act.put, List.setIfInBounds_toArray, List.set_cons_zero, List.set_cons_succ]))
  refine Flow.done ?_
  intro w6 hS
  have K6 := Kp.mk hS
  clear hS K5
  go_wp2_with fail
  refine wp_region_flow (fun w' => OF T t x ⟨fe, fs, fm⟩ A F w w') (by kernel_rfl) (by kernel_rfl) (by kernel_rfl)
    (fun _ _ h hb => h.keep hb) (K6.out.drew) ?_
  repeat (first
    | (apply Flow.idle
       · rfl
       try simp only [Act.put, List.setIfInBounds_toArray, List.set_cons_zero, List.set_cons_succ])
    | (apply Flow.value
       · rfl
       · (intro wx hS; exact exec_load_mid (cs := kc o.last) rfl rfl (HOL.out _ hS.tt.blk) Try.underlying47 rfl (by kernel_rfl))
       try simp only [Act.put, List.setIfInBounds_toArray, List.set_cons_zero, List.set_cons_succ])
    | (apply Flow.value
       · rfl
       · (intro wx hS; exact exec_load_mid (cs := kc x.k) rfl rfl (Blk.range (cs := knc x) (o := 1) hS.a rfl) Try.underlying47 rfl (by kernel_rfl))
       try simp only [Act.put, List.setIfInBounds_toArray, List.set_cons_zero, List.set_cons_succ])
    | (apply Flow.call
       · rfl
       · intro wx hS; go_simp; constructor <;> with_reducible rfl
       · intro wx hS; exact HNW wx
       try simp only [Act.put, List.setIfInBounds_toArray, List.set_cons_zero, List.set_cons_succ])
    | (apply Flow.value
       · rfl
       · (intro wx hS; obtain ⟨c0, c1, c2, c3⟩ := hS.at; rw [HXD.out] at c0; obtain ⟨p0, p1, p23⟩ := HOC.out _ hS.tt.blk; go_simp; with_reducible rfl)
       try simp only [Act.put, List.setIfInBounds_toArray, List.set_cons_zero, List.set_cons_succ]))
  refine Flow.done ?_
  intro w8 hS
  have K8 := Kp.mk hS
  clear hS K6 hdl HNW
  go_wp2_with fail
  refine wp_region_flow (fun w' => OF T t x ⟨fe, fs, fm⟩ A F w w') (by kernel_rfl) (by kernel_rfl) (by kernel_rfl)
    (fun _ _ h hb => h.keep hb) (K8.out.drew) ?_
  repeat (first
    | (apply Flow.idle
       · rfl
       try simp only [Act.put, List.setIfInBounds_toArray, List.set_cons_zero, List.set_cons_succ])
    | (apply Flow.value
       · rfl
       · (intro wx hS; exact exec_load_mid (cs := kc o.kn.k) rfl rfl (HOK.out _ hS.tt.blk) Try.underlying47 rfl (by kernel_rfl))
       try simp only [Act.put, List.setIfInBounds_toArray, List.set_cons_zero, List.set_cons_succ])
    | (apply Flow.value
       · rfl
       · (intro wx hS; exact exec_load_mid (cs := kc x.k) rfl rfl (Blk.range (cs := knc x) (o := 1) hS.a rfl) Try.underlying47 rfl (by kernel_rfl))
       try simp only [Act.put, List.setIfInBounds_toArray, List.set_cons_zero, List.set_cons_succ])
    | (apply Flow.value
       · rfl
       · (intro wx hS; obtain ⟨c0, c1, c2, c3⟩ := hS.at; rw [HXD.out] at c0; obtain ⟨p0, p1, p23⟩ := HOC.out _ hS.tt.blk; go_simp; with_reducible rfl)
       try simp only [Act.put, List.setIfInBounds_toArray, List.set_cons_zero, List.set_cons_succ]))
  refine Flow.done ?_
  intro w10 hS
  have K10 := Kp.mk hS
  clear hS K8
  obtain ⟨n, hn⟩ : ∃ n : Nat, T.way d = n := ⟨(T.way d).toNat, by have := HWY.out d HD8.out; omega⟩
  have HNW9 : Kp (T.way d = n ∧ n < 8) := ⟨hn, by have := HWY.out d HD8.out; omega⟩
  have hn8 : (n : Int) < 8 := by have := HNW9.out.2; omega
  obtain ⟨b, hb⟩ : ∃ b, b = T.off (d * 8 + n) := ⟨_, rfl⟩
  have HBE := Kp.mk hb
  have HLK : Kp (lkO T d = b) := ⟨by unfold lkO; rw [hn, hb]; rfl⟩
  clear hn hb
  go_wp2_with fail
  refine wp_region_held_drew (S := OF T t x ⟨fe, fs, fm⟩ A F w) (by kernel_rfl) (K10.out.drew) (fun hH => ?_)
  refine wpAnyH_take (i := 0) (oi := { dst := some 107, op := Go.Op.move (Go.Operand.tmp 0), type := 25, pos := "offer.go:37", after := #[], guard := none }) (v := .pointer (some ⟨t, 0, none⟩)) rfl (by kernel_rfl) (by kernel_rfl) (by kernel_rfl) (fun _ _ _ h => h) (Or.inl ⟨by rfl, fun w hS => by go_simp⟩) hH ?_
  simp only [Act.put, List.setIfInBounds_toArray, List.set_cons_zero, List.set_cons_succ]
  refine wpAnyH_take (i := 1) (oi := { dst := some 108, op := Go.Op.fieldAddr 51 (Go.Operand.tmp 9) 0, type := 0, pos := "offer.go:37", after := #[], guard := none }) (v := .pointer (some ⟨A, 0, none⟩)) rfl (by kernel_rfl) (by kernel_rfl) (by kernel_rfl) (fun _ _ _ h => h) (Or.inl ⟨by rfl, fun w hS => by go_simp⟩) hH ?_
  simp only [Act.put, List.setIfInBounds_toArray, List.set_cons_zero, List.set_cons_succ]
  refine wpAnyH_take (i := 2) (oi := { dst := some 109, op := Go.Op.load 3 (Go.Operand.tmp 108), type := 3, pos := "offer.go:37", after := #[{ on := 1, ground := Go.Ground.data }], guard := none }) (v := .int .i64 d) rfl (by kernel_rfl) (by kernel_rfl) (by kernel_rfl) (fun _ _ _ h => h) (Or.inl ⟨by rfl, fun w hS => by obtain ⟨c0, c1, c2, c3⟩ := hS.at; rw [HXD.out] at c0; go_simp⟩) hH ?_
  simp only [Act.put, List.setIfInBounds_toArray, List.set_cons_zero, List.set_cons_succ]
  refine wpAnyH_take (i := 3) (oi := { dst := some 110, op := Go.Op.move (Go.Operand.tmp 0), type := 25, pos := "offer.go:37", after := #[], guard := none }) (v := .pointer (some ⟨t, 0, none⟩)) rfl (by kernel_rfl) (by kernel_rfl) (by kernel_rfl) (fun _ _ _ h => h) (Or.inl ⟨by rfl, fun w hS => by go_simp⟩) hH ?_
  simp only [Act.put, List.setIfInBounds_toArray, List.set_cons_zero, List.set_cons_succ]
  refine wpAnyH_take (i := 4) (oi := { dst := some 111, op := Go.Op.fieldAddr 51 (Go.Operand.tmp 9) 0, type := 0, pos := "offer.go:37", after := #[], guard := none }) (v := .pointer (some ⟨A, 0, none⟩)) rfl (by kernel_rfl) (by kernel_rfl) (by kernel_rfl) (fun _ _ _ h => h) (Or.inl ⟨by rfl, fun w hS => by go_simp⟩) hH ?_
  simp only [Act.put, List.setIfInBounds_toArray, List.set_cons_zero, List.set_cons_succ]
  refine wpAnyH_take (i := 5) (oi := { dst := some 112, op := Go.Op.load 3 (Go.Operand.tmp 111), type := 3, pos := "offer.go:37", after := #[{ on := 4, ground := Go.Ground.data }], guard := none }) (v := .int .i64 d) rfl (by kernel_rfl) (by kernel_rfl) (by kernel_rfl) (fun _ _ _ h => h) (Or.inl ⟨by rfl, fun w hS => by obtain ⟨c0, c1, c2, c3⟩ := hS.at; rw [HXD.out] at c0; go_simp⟩) hH ?_
  simp only [Act.put, List.setIfInBounds_toArray, List.set_cons_zero, List.set_cons_succ]
  refine wpAnyH_take (i := 6) (oi := { dst := some 113, op := Go.Op.nilCheck (Go.Operand.tmp 110), type := 0, pos := "offer.go:37", after := #[{ on := 3, ground := Go.Ground.data }], guard := none }) (v := .pointer (some ⟨t, 0, none⟩)) rfl (by kernel_rfl) (by kernel_rfl) (by kernel_rfl) (fun _ _ _ h => h) (Or.inl ⟨by rfl, fun w hS => by go_simp⟩) hH ?_
  simp only [Act.put, List.setIfInBounds_toArray, List.set_cons_zero, List.set_cons_succ]
  refine wpAnyH_take (i := 7) (oi := { dst := some 114, op := Go.Op.fieldAddr 105 (Go.Operand.tmp 113) 3, type := 0, pos := "offer.go:37", after := #[{ on := 6, ground := Go.Ground.data }], guard := none }) (v := .pointer (some ⟨t, 1731, none⟩)) rfl (by kernel_rfl) (by kernel_rfl) (by kernel_rfl) (fun _ _ _ h => h) (Or.inl ⟨by rfl, fun w hS => by go_simp⟩) hH ?_
  simp only [Act.put, List.setIfInBounds_toArray, List.set_cons_zero, List.set_cons_succ]
  refine wpAnyH_take (i := 8) (oi := { dst := some 115, op := Go.Op.indexAddr 34 (Go.Operand.tmp 114) (Go.Operand.tmp 112), type := 0, pos := "offer.go:37", after := #[{ on := 7, ground := Go.Ground.data }, { on := 5, ground := Go.Ground.data }], guard := none }) (v := .pointer (some ⟨t, 1731 + d, none⟩)) rfl (by kernel_rfl) (by kernel_rfl) (by kernel_rfl) (fun _ _ _ h => h) (Or.inl ⟨by rfl, fun w hS => by go_simp⟩) hH ?_
  simp only [Act.put, List.setIfInBounds_toArray, List.set_cons_zero, List.set_cons_succ]
  refine wpAnyH_take (i := 9) (oi := { dst := some 116, op := Go.Op.load 3 (Go.Operand.tmp 115), type := 3, pos := "offer.go:37", after := #[{ on := 8, ground := Go.Ground.data }], guard := none }) (v := .int .i64 n) rfl (by kernel_rfl) (by kernel_rfl) (by kernel_rfl) (fun _ _ _ h => h) (Or.inl ⟨by rfl, fun w hS => by have c9 : w.cell? ⟨t, 1731 + d, none⟩ = some (.int .i64 n) := (hS.tt.blk.cell _).trans (by rw [List.getElem?_toArray, tc_way T HD8.out, HNW9.out.1]); go_simp⟩) hH ?_
  simp only [Act.put, List.setIfInBounds_toArray, List.set_cons_zero, List.set_cons_succ]
  refine wpAnyH_take (i := 10) (oi := { dst := some 117, op := Go.Op.nilCheck (Go.Operand.tmp 107), type := 0, pos := "offer.go:37", after := #[{ on := 0, ground := Go.Ground.data }], guard := none }) (v := .pointer (some ⟨t, 0, none⟩)) rfl (by kernel_rfl) (by kernel_rfl) (by kernel_rfl) (fun _ _ _ h => h) (Or.inl ⟨by rfl, fun w hS => by go_simp⟩) hH ?_
  simp only [Act.put, List.setIfInBounds_toArray, List.set_cons_zero, List.set_cons_succ]
  refine wpAnyH_take (i := 11) (oi := { dst := some 118, op := Go.Op.fieldAddr 105 (Go.Operand.tmp 117) 2, type := 0, pos := "offer.go:37", after := #[{ on := 10, ground := Go.Ground.data }], guard := none }) (v := .pointer (some ⟨t, 3, none⟩)) rfl (by kernel_rfl) (by kernel_rfl) (by kernel_rfl) (fun _ _ _ h => h) (Or.inl ⟨by rfl, fun w hS => by go_simp⟩) hH ?_
  simp only [Act.put, List.setIfInBounds_toArray, List.set_cons_zero, List.set_cons_succ]
  refine wpAnyH_take (i := 12) (oi := { dst := some 119, op := Go.Op.indexAddr 103 (Go.Operand.tmp 118) (Go.Operand.tmp 109), type := 0, pos := "offer.go:37", after := #[{ on := 11, ground := Go.Ground.data }, { on := 2, ground := Go.Ground.data }], guard := none }) (v := .pointer (some ⟨t, 3 + d * 216, none⟩)) rfl (by kernel_rfl) (by kernel_rfl) (by kernel_rfl) (fun _ _ _ h => h) (Or.inl ⟨by rfl, fun w hS => by go_simp⟩) hH ?_
  simp only [Act.put, List.setIfInBounds_toArray, List.set_cons_zero, List.set_cons_succ]
  refine wpAnyH_take (i := 13) (oi := { dst := some 120, op := Go.Op.indexAddr 102 (Go.Operand.tmp 119) (Go.Operand.tmp 116), type := 0, pos := "offer.go:37", after := #[{ on := 12, ground := Go.Ground.data }, { on := 9, ground := Go.Ground.data }], guard := none }) (v := .pointer (some ⟨t, 3 + d * 216 + n * 27, none⟩)) rfl (by kernel_rfl) (by kernel_rfl) (by kernel_rfl) (fun _ _ _ h => h) (Or.inl ⟨by rfl, fun w hS => by go_simp⟩) hH ?_
  simp only [Act.put, List.setIfInBounds_toArray, List.set_cons_zero, List.set_cons_succ]
  refine wpAnyH_take (i := 14) (oi := { dst := some 121, op := Go.Op.load 101 (Go.Operand.tmp 120), type := 101, pos := "offer.go:37", after := #[{ on := 13, ground := Go.Ground.data }], guard := none }) (v := .agg (owc b).toArray) rfl (by kernel_rfl) (by kernel_rfl) (by kernel_rfl) (fun _ _ _ h => h) (Or.inl ⟨by rfl, fun w hS => exec_load_mid (cs := owc b) rfl rfl (by rw [HBE.out]; exact off_range hS.tt.blk HD8.out HNW9.out.2) Try.underlying101 rfl (by kernel_rfl)⟩) hH ?_
  simp only [Act.put, List.setIfInBounds_toArray, List.set_cons_zero, List.set_cons_succ]
  refine wpAnyH_ready (rs := [15]) (by kernel_rfl) (by simp) ?_
  refine AllReadyH.cons (o := { dst := some 15, op := Go.Op.alloc 101, type := 0, pos := "offer.go:37", after := #[], guard := none }) rfl (fun K hK => ?_) AllReadyH.nil
  refine wp_alloc_rowO 101 rfl (owc ow0).toArray 27 info101z ?_
  have K11 : Kp (OF T t x ⟨fe, fs, fm⟩ A F w (w10.drew.alloc ow0.obj) ∧ Blk (w10.drew.alloc ow0.obj) w10.drew.heap.size ow0.obj) := ⟨K10.out.drew.keep (more (Below.refl _ _) _), Blk.new _ _⟩
  refine hK.out _ _ (K11.out.1) (fun hHn => ?_)
  clear hK K hH
  have hH := hHn
  clear hHn
  try simp only [Act.put, List.setIfInBounds_toArray, List.set_cons_zero, List.set_cons_succ]
  refine wpAnyH_ready (rs := [16]) (by kernel_rfl) (by simp) ?_
  refine AllReadyH.cons (o := { dst := none, op := Go.Op.store 101 (Go.Operand.tmp 15) (Go.Operand.tmp 121), type := 0, pos := "offer.go:37", after := #[{ on := 15, ground := Go.Ground.data }, { on := 14, ground := Go.Ground.data }, { on := 0, ground := Go.Ground.phase }, { on := 1, ground := Go.Ground.phase }, { on := 2, ground := Go.Ground.phase }, { on := 3, ground := Go.Ground.phase }, { on := 4, ground := Go.Ground.phase }, { on := 5, ground := Go.Ground.phase }, { on := 6, ground := Go.Ground.phase }, { on := 7, ground := Go.Ground.phase }, { on := 8, ground := Go.Ground.phase }, { on := 9, ground := Go.Ground.phase }, { on := 10, ground := Go.Ground.phase }, { on := 11, ground := Go.Ground.phase }, { on := 12, ground := Go.Ground.phase }, { on := 13, ground := Go.Ground.phase }, { on := 14, ground := Go.Ground.phase }, { on := 15, ground := Go.Ground.phase }], guard := none }) rfl (fun K hK => ?_) AllReadyH.nil
  refine wp_store_row 101 (.tmp 15) (.tmp 121) rfl w10.drew.heap.size (owc b).toArray rfl rfl 101 _ K11.out.2 (info101s b) rfl (all_oneCell_toArray (owc_one b)) ?_
  rw [World.setRow_alloc_new]
  have K12 : Kp (OF T t x ⟨fe, fs, fm⟩ A F w (w10.drew.alloc b.obj) ∧ Blk (w10.drew.alloc b.obj) w10.drew.heap.size b.obj) := ⟨K10.out.drew.keep (more (Below.refl _ _) _), Blk.new _ _⟩
  refine hK.out _ _ (K12.out.1) (fun hHn => ?_)
  clear hK K hH
  have hH := hHn
  clear hHn
  try simp only [Act.put]
  clear hH
  refine wpAnyH_done (by kernel_rfl) ?_ _
  clear K10 K11
  obtain ⟨B, hB⟩ : ∃ B, B = w10.heap.size := ⟨_, rfl⟩
  have hB1 : w10.drew.heap.size = B := hB.symm
  have hB2 : w10.heap.size = B := hB.symm
  rw [hB1] at K12
  try rw [hB1]
  try rw [hB2]
  clear hB hB1 hB2
  have K13 := K12
  clear K12
  revert K13
  generalize w10.drew.alloc b.obj = w13
  intro K13
  have HTB : Kp (t ≠ B) := ⟨fun e => by
    have h1 := K13.out.1.tt.blk
    have h2 := K13.out.2
    rw [← e] at h2
    have h3 := (show w13.heap[t]? = _ from h1).symm.trans h2
    injection h3 with e
    injection e with _ e
    exact absurd e (by decide)⟩
  go_wp2_with (refine wpList_load_row rfl 51 (.tmp 9) rfl A rfl 51 (knc x).toArray (0, 0) _ K13.out.1.a Try.underlying51 rfl (info51s x) ?_)
  have HBW := Turn.whole HBT.out K13.out.1.tt
  refine (copied_any x np pq _ (HPA.out.1.keep HBW) HPA.out.2).mono ?_
  rintro r w14 ⟨ya, yc, rfl, hrow, hb⟩
  obtain ⟨y, hy⟩ : ∃ y : KV, y = { x with pa := ya, pn := np, pc := yc } := ⟨_, rfl⟩
  rw [← hy]
  have HY := Kp.mk hy
  have HYK : Kp (y.k = x.k) := ⟨by rw [hy]⟩
  have HTM : Kp (t < w.heap.size) := ⟨HBT.out.lt⟩
  have K14 : Kp (OF T t x ⟨fe, fs, fm⟩ A F w w14 ∧ BR B b w.heap.size (.slice ya np yc) np pq w14) := ⟨K13.out.1.keep hb, K13.out.2.keep hb, ownsRow_down HBW.size hrow⟩
  clear hb K13 hrow HBW hy
  obtain ⟨T1, hT1⟩ : ∃ T1, T1 = T.putO (d * 8 + f) (nwO now y) := ⟨_, rfl⟩
  obtain ⟨n2, hn2⟩ : ∃ n2 : Nat, n2 = turnUp T1 d 8 := ⟨_, rfl⟩
  obtain ⟨T2, hT2⟩ : ∃ T2, T2 = T1.putW d n2 := ⟨_, rfl⟩
  have HPP : Kp (∀ r w', OfPost (if (n2 : Nat) ≠ f then 1 else turnedV b x.k) 0 T2 t w r w' → BR B b w.heap.size (.slice ya np yc) np pq w' → PutPostN T now d f x np pq t w r w') := ⟨fun r w' hx hbr => by
    refine ⟨ya, yc, ?_, hbr.row⟩
    unfold PutPost
    rw [← HY.out]
    rw [← hT1, ← hn2, ← hT2, HLK.out, HYK.out]
    exact hx⟩
  have HT1 := Kp.mk hT1
  have HN2 := Kp.mk (And.intro hn2 hT2)
  have HW1 : Kp (0 ≤ T1.way d ∧ T1.way d < 8) := ⟨by rw [hT1]; exact HWY.out d HD8.out⟩
  have HN2C : Kp (∀ wx, Blk wx t T2.obj → wx.cell? ⟨t, 1731 + d, none⟩ = some (.int .i64 n2)) := ⟨fun wx hx => (hx.cell _).trans (by rw [List.getElem?_toArray, tc_way T2 HD8.out, hT2]; simp [TB.putW])⟩
  clear hT1 hn2 hT2
  go_upto_region 15 with (first
    | (refine wpList_build_eq rfl 101 #[(0, .const (.bool true)), (1, .tmp 123), (2, .tmp 125)] rfl #[(0, .bool true), (1, .int .i64 now), (2, .agg (knc y).toArray)] (by simp only [List.map_toArray, List.map_cons, List.map_nil]; rfl) (owc (nwO now y)).toArray (builtO now y) ?_)
    | (refine wpList_store_mid rfl 101 (.tmp 127) (.tmp 126) rfl t (3 + d * 216 + f * 27) (owc (nwO now y)).toArray rfl rfl (Blk.there K14.out.1.tt.blk (by rw [tc_len]; have := HD8.out; have := HF8.out; show 3 + d * 216 + f * 27 + 27 ≤ 1739; omega)) (info101s _) (all_oneCell_toArray (owc_one _)) ?_
       have K15 : Kp (OF T1 t x ⟨fe, fs, fm⟩ A F w (w14.setCells t (3 + d * 216 + f * 27) (owc (nwO now y)).toArray.toList) ∧ BR B b w.heap.size (.slice ya np yc) np pq (w14.setCells t (3 + d * 216 + f * 27) (owc (nwO now y)).toArray.toList)) := ⟨K14.out.1.turn (by rw [HT1.out]; exact (Turn.same K14.out.1.tt.blk).putO HD8.out HF8.out (nwO now y)), K14.out.2.cells HTB.out HTM.out _ _⟩
       revert K15
       generalize World.setCells _ _ _ _ = w15
       intro K15))
  clear K14
  obtain ⟨c0, c1, c2, c3⟩ := K15.out.1.at
  rw [HXD.out] at c0
  go_wp2_with fail
  refine (turn_any T1 t d _ K15.out.1.tt.blk HD8.out HW1.out).mono ?_
  rintro r w16 ⟨rfl, hT⟩
  rw [← HN2.out.1, ← HN2.out.2] at hT
  have K15' : Kp (OF T2 t x ⟨fe, fs, fm⟩ A F w w16 ∧ BR B b w.heap.size (.slice ya np yc) np pq w16) := ⟨K15.out.1.turn hT, K15.out.2.turn hT HTB.out HTM.out⟩
  clear hT K15 c0 c1 c2 c3
  have K15 := K15'
  clear K15'
  go_wp2_with fail
  by_cases hnf : n2 = f
  · have hne : ((n2 : Int) != (f : Int)) = false := by simp [hnf]
    have HV : Kp ((if (n2 : Nat) ≠ f then 1 else turnedV b x.k) = turnedV b x.k) := ⟨by simp [hnf]⟩
    clear hnf
    refine wp_region_flow (fun w' => OF T2 t x ⟨fe, fs, fm⟩ A F w w' ∧ BR B b w.heap.size (.slice ya np yc) np pq w') (by kernel_rfl) (by kernel_rfl) (by kernel_rfl)
      (fun _ _ h hb => ⟨h.1.keep hb, h.2.keep hb⟩) (⟨K15.out.1.drew, K15.out.2.draw⟩) ?_
    repeat (first
      | (apply Flow.value
         · rfl
         · (intro wx hS; obtain ⟨c0, c1, c2, c3⟩ := hS.1.at; rw [HXD.out] at c0; have c9 := HN2C.out _ hS.1.tt.blk; go_simp; with_reducible rfl)
         try simp only [Act.put, List.setIfInBounds_toArray, List.set_cons_zero, List.set_cons_succ]))
    refine Flow.done ?_
    intro w17 hS
    have K17 := Kp.mk hS
    clear hS hne K15
    obtain ⟨c0, c1, c2, c3⟩ := K17.out.1.at
    go_wp2_with (refine wpList_load_row rfl 101 (.tmp 15) rfl B rfl 101 (owc b).toArray (0, 0) _ K17.out.2.blk Try.underlying101 rfl (info101s b) ?_)
    refine (turned_any b x.k _).mono ?_
    rintro r w18 ⟨rfl, hb⟩
    have K18 := Kp.mk (And.intro (K17.out.1.tt.more hb) (K17.out.2.keep hb))
    clear hb K17 c0 c1 c2 c3
    go_wp2_with fail
    go_ret2
    exact HPP.out _ _ ⟨by rw [HV.out]; rfl, K18.out.1⟩ K18.out.2
  · have hne : ((n2 : Int) != (f : Int)) = true := by simp; omega
    have HV : Kp ((if (n2 : Nat) ≠ f then 1 else turnedV b x.k) = 1) := ⟨by simp [hnf]⟩
    clear hnf
    refine wp_region_flow (fun w' => OF T2 t x ⟨fe, fs, fm⟩ A F w w' ∧ BR B b w.heap.size (.slice ya np yc) np pq w') (by kernel_rfl) (by kernel_rfl) (by kernel_rfl)
      (fun _ _ h hb => ⟨h.1.keep hb, h.2.keep hb⟩) (⟨K15.out.1.drew, K15.out.2.draw⟩) ?_
    repeat (first
      | (apply Flow.value
         · rfl
         · (intro wx hS; obtain ⟨c0, c1, c2, c3⟩ := hS.1.at; rw [HXD.out] at c0; have c9 := HN2C.out _ hS.1.tt.blk; go_simp; with_reducible rfl)
         try simp only [Act.put, List.setIfInBounds_toArray, List.set_cons_zero, List.set_cons_succ]))
    refine Flow.done ?_
    intro w17 hS
    have K17 := Kp.mk (And.intro hS.1.tt hS.2)
    clear hS hne K15
    go_wp2_with fail
    go_ret2
    exact HPP.out _ _ ⟨by rw [HV.out]; rfl, K17.out.1⟩ K17.out.2
set_option maxRecDepth 100000 in
set_option maxHeartbeats 6400000 in
theorem offer_puts10 (T : TB) (now : Int) (d f : Nat) (x : KV) (fl : K3) (t : Nat) (w : World) (h : Blk w t T.obj) (hxd : x.d = d) (hv : ofOk T now f x = true) (hwy : T.Ways) (np : Nat) (pq : List Int) (hpa : HoldsS w (.slice x.pa x.pn x.pc) np pq ∧ np ≤ 1000000) (hst : (T.off (d * 8 + f)).stands = true) (hcmp : cmpK (T.off (d * 8 + f)).kn.k x.k ≤ 0) (hlt : (T.off (d * 8 + f)).until_ ≤ now) (hky : (T.off (d * 8 + f)).kn.k ≠ x.k) : Calls Try.prog 14 #[.pointer (some ⟨t, 0, none⟩), .int .i64 now, .int .i64 f, .agg (knc x).toArray, keyV fl, .bool false] w (PutPostN T now d f x np pq t w) := by
  obtain ⟨hd, hf, b1, b2, b3, b4⟩ := ofOk_parts hxd hv
  have hA := fun (w : World) => box_row (t := 51) (cs := knc x) (info51s x) w
  obtain ⟨A, hAe⟩ : ∃ A, A = w.heap.size := ⟨_, rfl⟩
  obtain ⟨F, hFe⟩ : ∃ F, F = A + 1 := ⟨_, rfl⟩
  obtain ⟨W, hW⟩ : ∃ W, W = (w.alloc x.obj).alloc (.cells (kc fl).toArray 47) := ⟨_, rfl⟩
  have H0 : Kp (OF T t x fl A F w W) := ⟨by
    have := h.lt
    rw [hW]
    exact ⟨((Turn.same h).alloc _).alloc _, (Blk.newAt _ hAe).old _, Blk.newAt _ (by rw [hFe, hAe]; simp), by omega, by omega⟩⟩
  have HE := Kp.mk (And.intro hAe hFe)
  have HW := Kp.mk hW
  obtain ⟨fe, fs, fm⟩ := fl
  have H1 := fun W h1 => other_any T t x.d W h1
  have H2 := fun W h1 => other_any T t f W h1
  have H3 := fun W => kright_any x.k W
  have H4 := fun W => time_any now W
  rw [b1] at H1
  rw [b2] at H2
  rw [b3] at H3
  rw [b4] at H4
  have HD8 := Kp.mk hd
  have HF8 := Kp.mk hf
  have HXD := Kp.mk hxd
  have HWY := Kp.mk hwy
  have HPA := Kp.mk hpa
  have HBT := Kp.mk h
  have hd' : (d : Int) < 8 := by omega
  have hf' : (f : Int) < 8 := by omega
  obtain ⟨o, ho⟩ : ∃ o, o = T.off (d * 8 + f) := ⟨_, rfl⟩
  have HO := Kp.mk ho
  have HOC : Kp (∀ wx, Blk wx t T.obj → wx.cell? ⟨t, 3 + d * 216 + f * 27, none⟩ = some (.bool o.stands) ∧ wx.cell? ⟨t, 3 + d * 216 + f * 27 + 1, none⟩ = some (.int .i64 o.told) ∧ wx.cell? ⟨t, 3 + d * 216 + f * 27 + 23, none⟩ = some (.int .i64 o.until_)) := ⟨fun wx hx => ⟨off_cell (j := 0) hx hd hf (by rw [ho]; rfl), off_cell (j := 1) hx hd hf (by rw [ho]; rfl), off_cell (j := 23) hx hd hf (by rw [ho]; rfl)⟩⟩
  have HOK : Kp (∀ wx, Blk wx t T.obj → wx.rangeAt t (3 + d * 216 + f * 27 + 3) (kc o.kn.k)) := ⟨fun wx hx => by rw [ho]; exact off_key hx hd hf⟩
  have HOL : Kp (∀ wx, Blk wx t T.obj → wx.rangeAt t (3 + d * 216 + f * 27 + 24) (kc o.last)) := ⟨fun wx hx => by rw [ho]; exact off_last hx hd hf⟩
  rw [← ho] at hst hcmp hlt hky
  rw [hst] at HOC
  obtain ⟨X, hX⟩ : ∃ X, X = cmpK o.kn.k x.k := ⟨_, rfl⟩
  have HC := fun wx => compare_any o.kn.k x.k wx
  rw [← hX] at HC hcmp
  clear hX
  have hdec : decide (0 < X) = false := by simp; omega
  have hdl : decide (now < o.until_) = false := by simp; omega
  have HEQ : ∀ wx, (binOp .eql 47 (keyV o.kn.k) (keyV x.k)).run Try.prog wx = .ok (.bool false) wx := fun wx => by rw [eqlK, K3.beq]; simp [hky]
  clear hW hAe hFe h hd hf hxd hv hwy hpa b1 b2 b3 b4 ho hst hcmp hlt hky
  go_enter Try.func14, Try.ntmps14
  go_upto_region 1 with (refine wpList_box_eq rfl 51 (.tmp 3) rfl _ rfl _ _ (hA _) ?_)
  rw [← HW.out, ← HE.out.1, ← HE.out.2]
  clear hA HW
  obtain ⟨c0, c1, c2, c3⟩ := H0.out.at
  go_wp2_with fail
  refine (H1 _ H0.out.tt.blk).mono ?_
  rintro r w1 ⟨rfl, rfl⟩
  go_wp2_with fail
  refine (H2 _ H0.out.tt.blk).mono ?_
  rintro r w1 ⟨rfl, rfl⟩
  go_wp2_with fail
  refine (H3 _).mono ?_
  rintro r w3 ⟨rfl, hb⟩
  have K3 := Kp.mk (H0.out.keep hb)
  clear hb H0 c0 c1 c2 c3 H1 H2 H3
  go_wp2_with fail
  refine (H4 _).mono ?_
  rintro r w4 ⟨rfl, rfl⟩
  clear H4
  go_wp2_with fail
  refine wp_region_flow (fun w' => OF T t x ⟨fe, fs, fm⟩ A F w w') (by kernel_rfl) (by kernel_rfl) (by kernel_rfl)
    (fun _ _ h hb => h.keep hb) (K3.out.drew) ?_
  repeat (first
    | (apply Flow.value
       · rfl
       · (intro wx hS; obtain ⟨c0, c1, c2, c3⟩ := hS.at; rw [HXD.out] at c0; obtain ⟨p0, p1, p23⟩ := HOC.out _ hS.tt.blk; go_simp; with_reducible rfl)
       try simp only [Act.put, List.setIfInBounds_toArray, List.set_cons_zero, List.set_cons_succ]))
  refine Flow.done ?_
  intro w5 hS
  have K5 := Kp.mk hS
  clear hS K3
  go_wp2_with fail
  refine wp_region_flow (fun w' => OF T t x ⟨fe, fs, fm⟩ A F w w') (by kernel_rfl) (by kernel_rfl) (by kernel_rfl)
    (fun _ _ h hb => h.keep hb) (K5.out.drew) ?_
  repeat (first
    | (apply Flow.idle
       · rfl
       try simp only [Act.put, List.setIfInBounds_toArray, List.set_cons_zero, List.set_cons_succ])
    | (apply Flow.value
       · rfl
       · (intro wx hS; exact exec_load_mid (cs := kc o.kn.k) rfl rfl (HOK.out _ hS.tt.blk) Try.underlying47 rfl (by kernel_rfl))
       try simp only [Act.put, List.setIfInBounds_toArray, List.set_cons_zero, List.set_cons_succ])
    | (apply Flow.value
       · rfl
       · (intro wx hS; exact exec_load_mid (cs := kc x.k) rfl rfl (Blk.range (cs := knc x) (o := 1) hS.a rfl) Try.underlying47 rfl (by kernel_rfl))
       try simp only [Act.put, List.setIfInBounds_toArray, List.set_cons_zero, List.set_cons_succ])
    | (apply Flow.call
       · rfl
       · intro wx hS; go_simp; constructor <;> with_reducible rfl
       · intro wx hS; exact HC wx
       try simp only [Act.put, List.setIfInBounds_toArray, List.set_cons_zero, List.set_cons_succ])
    | (apply Flow.value
       · rfl
       · (intro wx hS; obtain ⟨c0, c1, c2, c3⟩ := hS.at; rw [HXD.out] at c0; obtain ⟨p0, p1, p23⟩ := HOC.out _ hS.tt.blk; go_simp; with_reducible rfl)
       try simp only [Act.put, List.setIfInBounds_toArray, List.set_cons_zero, List.set_cons_succ]))
  refine Flow.done ?_
  intro w6 hS
  have K6 := Kp.mk hS
  clear hS K5 HC hdec
  go_wp2_with fail
  refine wp_region_flow (fun w' => OF T t x ⟨fe, fs, fm⟩ A F w w') (by kernel_rfl) (by kernel_rfl) (by kernel_rfl)
    (fun _ _ h hb => h.keep hb) (K6.out.drew) ?_
  repeat (first
    | (apply Flow.idle
       · rfl
       try simp only [Act.put, List.setIfInBounds_toArray, List.set_cons_zero, List.set_cons_succ])
    | (apply Flow.value
       · rfl
       · (intro wx hS; exact exec_load_mid (cs := kc o.last) rfl rfl (HOL.out _ hS.tt.blk) Try.underlying47 rfl (by kernel_rfl))
       try simp only [Act.put, List.setIfInBounds_toArray, List.set_cons_zero, List.set_cons_succ])
    | (apply Flow.value
       · rfl
       · (intro wx hS; exact exec_load_mid (cs := kc x.k) rfl rfl (Blk.range (cs := knc x) (o := 1) hS.a rfl) Try.underlying47 rfl (by kernel_rfl))
       try simp only [Act.put, List.setIfInBounds_toArray, List.set_cons_zero, List.set_cons_succ])
    | (apply Flow.value
       · rfl
       · (intro wx hS; obtain ⟨c0, c1, c2, c3⟩ := hS.at; rw [HXD.out] at c0; obtain ⟨p0, p1, p23⟩ := HOC.out _ hS.tt.blk; go_simp; with_reducible rfl)
       try simp only [Act.put, List.setIfInBounds_toArray, List.set_cons_zero, List.set_cons_succ]))
  refine Flow.done ?_
  intro w8 hS
  have K8 := Kp.mk hS
  clear hS K6 hdl
  go_wp2_with fail
  refine wp_region_flow (fun w' => OF T t x ⟨fe, fs, fm⟩ A F w w') (by kernel_rfl) (by kernel_rfl) (by kernel_rfl)
    (fun _ _ h hb => h.keep hb) (K8.out.drew) ?_
  repeat (first
    | (apply Flow.idle
       · rfl
       try simp only [Act.put, List.setIfInBounds_toArray, List.set_cons_zero, List.set_cons_succ])
    | (apply Flow.value
       · rfl
       · (intro wx hS; exact exec_load_mid (cs := kc o.kn.k) rfl rfl (HOK.out _ hS.tt.blk) Try.underlying47 rfl (by kernel_rfl))
       try simp only [Act.put, List.setIfInBounds_toArray, List.set_cons_zero, List.set_cons_succ])
    | (apply Flow.value
       · rfl
       · (intro wx hS; exact exec_load_mid (cs := kc x.k) rfl rfl (Blk.range (cs := knc x) (o := 1) hS.a rfl) Try.underlying47 rfl (by kernel_rfl))
       try simp only [Act.put, List.setIfInBounds_toArray, List.set_cons_zero, List.set_cons_succ])
    | (apply Flow.value
       · rfl
       · (intro wx hS; obtain ⟨c0, c1, c2, c3⟩ := hS.at; rw [HXD.out] at c0; obtain ⟨p0, p1, p23⟩ := HOC.out _ hS.tt.blk; go_simp; with_reducible rfl)
       try simp only [Act.put, List.setIfInBounds_toArray, List.set_cons_zero, List.set_cons_succ]))
  refine Flow.done ?_
  intro w10 hS
  have K10 := Kp.mk hS
  clear hS K8 HEQ
  obtain ⟨n, hn⟩ : ∃ n : Nat, T.way d = n := ⟨(T.way d).toNat, by have := HWY.out d HD8.out; omega⟩
  have HNW9 : Kp (T.way d = n ∧ n < 8) := ⟨hn, by have := HWY.out d HD8.out; omega⟩
  have hn8 : (n : Int) < 8 := by have := HNW9.out.2; omega
  obtain ⟨b, hb⟩ : ∃ b, b = T.off (d * 8 + n) := ⟨_, rfl⟩
  have HBE := Kp.mk hb
  have HLK : Kp (lkO T d = b) := ⟨by unfold lkO; rw [hn, hb]; rfl⟩
  clear hn hb
  go_wp2_with fail
  refine wp_region_held_drew (S := OF T t x ⟨fe, fs, fm⟩ A F w) (by kernel_rfl) (K10.out.drew) (fun hH => ?_)
  refine wpAnyH_take (i := 0) (oi := { dst := some 107, op := Go.Op.move (Go.Operand.tmp 0), type := 25, pos := "offer.go:37", after := #[], guard := none }) (v := .pointer (some ⟨t, 0, none⟩)) rfl (by kernel_rfl) (by kernel_rfl) (by kernel_rfl) (fun _ _ _ h => h) (Or.inl ⟨by rfl, fun w hS => by go_simp⟩) hH ?_
  simp only [Act.put, List.setIfInBounds_toArray, List.set_cons_zero, List.set_cons_succ]
  refine wpAnyH_take (i := 1) (oi := { dst := some 108, op := Go.Op.fieldAddr 51 (Go.Operand.tmp 9) 0, type := 0, pos := "offer.go:37", after := #[], guard := none }) (v := .pointer (some ⟨A, 0, none⟩)) rfl (by kernel_rfl) (by kernel_rfl) (by kernel_rfl) (fun _ _ _ h => h) (Or.inl ⟨by rfl, fun w hS => by go_simp⟩) hH ?_
  simp only [Act.put, List.setIfInBounds_toArray, List.set_cons_zero, List.set_cons_succ]
  refine wpAnyH_take (i := 2) (oi := { dst := some 109, op := Go.Op.load 3 (Go.Operand.tmp 108), type := 3, pos := "offer.go:37", after := #[{ on := 1, ground := Go.Ground.data }], guard := none }) (v := .int .i64 d) rfl (by kernel_rfl) (by kernel_rfl) (by kernel_rfl) (fun _ _ _ h => h) (Or.inl ⟨by rfl, fun w hS => by obtain ⟨c0, c1, c2, c3⟩ := hS.at; rw [HXD.out] at c0; go_simp⟩) hH ?_
  simp only [Act.put, List.setIfInBounds_toArray, List.set_cons_zero, List.set_cons_succ]
  refine wpAnyH_take (i := 3) (oi := { dst := some 110, op := Go.Op.move (Go.Operand.tmp 0), type := 25, pos := "offer.go:37", after := #[], guard := none }) (v := .pointer (some ⟨t, 0, none⟩)) rfl (by kernel_rfl) (by kernel_rfl) (by kernel_rfl) (fun _ _ _ h => h) (Or.inl ⟨by rfl, fun w hS => by go_simp⟩) hH ?_
  simp only [Act.put, List.setIfInBounds_toArray, List.set_cons_zero, List.set_cons_succ]
  refine wpAnyH_take (i := 4) (oi := { dst := some 111, op := Go.Op.fieldAddr 51 (Go.Operand.tmp 9) 0, type := 0, pos := "offer.go:37", after := #[], guard := none }) (v := .pointer (some ⟨A, 0, none⟩)) rfl (by kernel_rfl) (by kernel_rfl) (by kernel_rfl) (fun _ _ _ h => h) (Or.inl ⟨by rfl, fun w hS => by go_simp⟩) hH ?_
  simp only [Act.put, List.setIfInBounds_toArray, List.set_cons_zero, List.set_cons_succ]
  refine wpAnyH_take (i := 5) (oi := { dst := some 112, op := Go.Op.load 3 (Go.Operand.tmp 111), type := 3, pos := "offer.go:37", after := #[{ on := 4, ground := Go.Ground.data }], guard := none }) (v := .int .i64 d) rfl (by kernel_rfl) (by kernel_rfl) (by kernel_rfl) (fun _ _ _ h => h) (Or.inl ⟨by rfl, fun w hS => by obtain ⟨c0, c1, c2, c3⟩ := hS.at; rw [HXD.out] at c0; go_simp⟩) hH ?_
  simp only [Act.put, List.setIfInBounds_toArray, List.set_cons_zero, List.set_cons_succ]
  refine wpAnyH_take (i := 6) (oi := { dst := some 113, op := Go.Op.nilCheck (Go.Operand.tmp 110), type := 0, pos := "offer.go:37", after := #[{ on := 3, ground := Go.Ground.data }], guard := none }) (v := .pointer (some ⟨t, 0, none⟩)) rfl (by kernel_rfl) (by kernel_rfl) (by kernel_rfl) (fun _ _ _ h => h) (Or.inl ⟨by rfl, fun w hS => by go_simp⟩) hH ?_
  simp only [Act.put, List.setIfInBounds_toArray, List.set_cons_zero, List.set_cons_succ]
  refine wpAnyH_take (i := 7) (oi := { dst := some 114, op := Go.Op.fieldAddr 105 (Go.Operand.tmp 113) 3, type := 0, pos := "offer.go:37", after := #[{ on := 6, ground := Go.Ground.data }], guard := none }) (v := .pointer (some ⟨t, 1731, none⟩)) rfl (by kernel_rfl) (by kernel_rfl) (by kernel_rfl) (fun _ _ _ h => h) (Or.inl ⟨by rfl, fun w hS => by go_simp⟩) hH ?_
  simp only [Act.put, List.setIfInBounds_toArray, List.set_cons_zero, List.set_cons_succ]
  refine wpAnyH_take (i := 8) (oi := { dst := some 115, op := Go.Op.indexAddr 34 (Go.Operand.tmp 114) (Go.Operand.tmp 112), type := 0, pos := "offer.go:37", after := #[{ on := 7, ground := Go.Ground.data }, { on := 5, ground := Go.Ground.data }], guard := none }) (v := .pointer (some ⟨t, 1731 + d, none⟩)) rfl (by kernel_rfl) (by kernel_rfl) (by kernel_rfl) (fun _ _ _ h => h) (Or.inl ⟨by rfl, fun w hS => by go_simp⟩) hH ?_
  simp only [Act.put, List.setIfInBounds_toArray, List.set_cons_zero, List.set_cons_succ]
  refine wpAnyH_take (i := 9) (oi := { dst := some 116, op := Go.Op.load 3 (Go.Operand.tmp 115), type := 3, pos := "offer.go:37", after := #[{ on := 8, ground := Go.Ground.data }], guard := none }) (v := .int .i64 n) rfl (by kernel_rfl) (by kernel_rfl) (by kernel_rfl) (fun _ _ _ h => h) (Or.inl ⟨by rfl, fun w hS => by have c9 : w.cell? ⟨t, 1731 + d, none⟩ = some (.int .i64 n) := (hS.tt.blk.cell _).trans (by rw [List.getElem?_toArray, tc_way T HD8.out, HNW9.out.1]); go_simp⟩) hH ?_
  simp only [Act.put, List.setIfInBounds_toArray, List.set_cons_zero, List.set_cons_succ]
  refine wpAnyH_take (i := 10) (oi := { dst := some 117, op := Go.Op.nilCheck (Go.Operand.tmp 107), type := 0, pos := "offer.go:37", after := #[{ on := 0, ground := Go.Ground.data }], guard := none }) (v := .pointer (some ⟨t, 0, none⟩)) rfl (by kernel_rfl) (by kernel_rfl) (by kernel_rfl) (fun _ _ _ h => h) (Or.inl ⟨by rfl, fun w hS => by go_simp⟩) hH ?_
  simp only [Act.put, List.setIfInBounds_toArray, List.set_cons_zero, List.set_cons_succ]
  refine wpAnyH_take (i := 11) (oi := { dst := some 118, op := Go.Op.fieldAddr 105 (Go.Operand.tmp 117) 2, type := 0, pos := "offer.go:37", after := #[{ on := 10, ground := Go.Ground.data }], guard := none }) (v := .pointer (some ⟨t, 3, none⟩)) rfl (by kernel_rfl) (by kernel_rfl) (by kernel_rfl) (fun _ _ _ h => h) (Or.inl ⟨by rfl, fun w hS => by go_simp⟩) hH ?_
  simp only [Act.put, List.setIfInBounds_toArray, List.set_cons_zero, List.set_cons_succ]
  refine wpAnyH_take (i := 12) (oi := { dst := some 119, op := Go.Op.indexAddr 103 (Go.Operand.tmp 118) (Go.Operand.tmp 109), type := 0, pos := "offer.go:37", after := #[{ on := 11, ground := Go.Ground.data }, { on := 2, ground := Go.Ground.data }], guard := none }) (v := .pointer (some ⟨t, 3 + d * 216, none⟩)) rfl (by kernel_rfl) (by kernel_rfl) (by kernel_rfl) (fun _ _ _ h => h) (Or.inl ⟨by rfl, fun w hS => by go_simp⟩) hH ?_
  simp only [Act.put, List.setIfInBounds_toArray, List.set_cons_zero, List.set_cons_succ]
  refine wpAnyH_take (i := 13) (oi := { dst := some 120, op := Go.Op.indexAddr 102 (Go.Operand.tmp 119) (Go.Operand.tmp 116), type := 0, pos := "offer.go:37", after := #[{ on := 12, ground := Go.Ground.data }, { on := 9, ground := Go.Ground.data }], guard := none }) (v := .pointer (some ⟨t, 3 + d * 216 + n * 27, none⟩)) rfl (by kernel_rfl) (by kernel_rfl) (by kernel_rfl) (fun _ _ _ h => h) (Or.inl ⟨by rfl, fun w hS => by go_simp⟩) hH ?_
  simp only [Act.put, List.setIfInBounds_toArray, List.set_cons_zero, List.set_cons_succ]
  refine wpAnyH_take (i := 14) (oi := { dst := some 121, op := Go.Op.load 101 (Go.Operand.tmp 120), type := 101, pos := "offer.go:37", after := #[{ on := 13, ground := Go.Ground.data }], guard := none }) (v := .agg (owc b).toArray) rfl (by kernel_rfl) (by kernel_rfl) (by kernel_rfl) (fun _ _ _ h => h) (Or.inl ⟨by rfl, fun w hS => exec_load_mid (cs := owc b) rfl rfl (by rw [HBE.out]; exact off_range hS.tt.blk HD8.out HNW9.out.2) Try.underlying101 rfl (by kernel_rfl)⟩) hH ?_
  simp only [Act.put, List.setIfInBounds_toArray, List.set_cons_zero, List.set_cons_succ]
  refine wpAnyH_ready (rs := [15]) (by kernel_rfl) (by simp) ?_
  refine AllReadyH.cons (o := { dst := some 15, op := Go.Op.alloc 101, type := 0, pos := "offer.go:37", after := #[], guard := none }) rfl (fun K hK => ?_) AllReadyH.nil
  refine wp_alloc_rowO 101 rfl (owc ow0).toArray 27 info101z ?_
  have K11 : Kp (OF T t x ⟨fe, fs, fm⟩ A F w (w10.drew.alloc ow0.obj) ∧ Blk (w10.drew.alloc ow0.obj) w10.drew.heap.size ow0.obj) := ⟨K10.out.drew.keep (more (Below.refl _ _) _), Blk.new _ _⟩
  refine hK.out _ _ (K11.out.1) (fun hHn => ?_)
  clear hK K hH
  have hH := hHn
  clear hHn
  try simp only [Act.put, List.setIfInBounds_toArray, List.set_cons_zero, List.set_cons_succ]
  refine wpAnyH_ready (rs := [16]) (by kernel_rfl) (by simp) ?_
  refine AllReadyH.cons (o := { dst := none, op := Go.Op.store 101 (Go.Operand.tmp 15) (Go.Operand.tmp 121), type := 0, pos := "offer.go:37", after := #[{ on := 15, ground := Go.Ground.data }, { on := 14, ground := Go.Ground.data }, { on := 0, ground := Go.Ground.phase }, { on := 1, ground := Go.Ground.phase }, { on := 2, ground := Go.Ground.phase }, { on := 3, ground := Go.Ground.phase }, { on := 4, ground := Go.Ground.phase }, { on := 5, ground := Go.Ground.phase }, { on := 6, ground := Go.Ground.phase }, { on := 7, ground := Go.Ground.phase }, { on := 8, ground := Go.Ground.phase }, { on := 9, ground := Go.Ground.phase }, { on := 10, ground := Go.Ground.phase }, { on := 11, ground := Go.Ground.phase }, { on := 12, ground := Go.Ground.phase }, { on := 13, ground := Go.Ground.phase }, { on := 14, ground := Go.Ground.phase }, { on := 15, ground := Go.Ground.phase }], guard := none }) rfl (fun K hK => ?_) AllReadyH.nil
  refine wp_store_row 101 (.tmp 15) (.tmp 121) rfl w10.drew.heap.size (owc b).toArray rfl rfl 101 _ K11.out.2 (info101s b) rfl (all_oneCell_toArray (owc_one b)) ?_
  rw [World.setRow_alloc_new]
  have K12 : Kp (OF T t x ⟨fe, fs, fm⟩ A F w (w10.drew.alloc b.obj) ∧ Blk (w10.drew.alloc b.obj) w10.drew.heap.size b.obj) := ⟨K10.out.drew.keep (more (Below.refl _ _) _), Blk.new _ _⟩
  refine hK.out _ _ (K12.out.1) (fun hHn => ?_)
  clear hK K hH
  have hH := hHn
  clear hHn
  try simp only [Act.put]
  clear hH
  refine wpAnyH_done (by kernel_rfl) ?_ _
  clear K10 K11
  obtain ⟨B, hB⟩ : ∃ B, B = w10.heap.size := ⟨_, rfl⟩
  have hB1 : w10.drew.heap.size = B := hB.symm
  have hB2 : w10.heap.size = B := hB.symm
  rw [hB1] at K12
  try rw [hB1]
  try rw [hB2]
  clear hB hB1 hB2
  have K13 := K12
  clear K12
  revert K13
  generalize w10.drew.alloc b.obj = w13
  intro K13
  have HTB : Kp (t ≠ B) := ⟨fun e => by
    have h1 := K13.out.1.tt.blk
    have h2 := K13.out.2
    rw [← e] at h2
    have h3 := (show w13.heap[t]? = _ from h1).symm.trans h2
    injection h3 with e
    injection e with _ e
    exact absurd e (by decide)⟩
  go_wp2_with (refine wpList_load_row rfl 51 (.tmp 9) rfl A rfl 51 (knc x).toArray (0, 0) _ K13.out.1.a Try.underlying51 rfl (info51s x) ?_)
  have HBW := Turn.whole HBT.out K13.out.1.tt
  refine (copied_any x np pq _ (HPA.out.1.keep HBW) HPA.out.2).mono ?_
  rintro r w14 ⟨ya, yc, rfl, hrow, hb⟩
  obtain ⟨y, hy⟩ : ∃ y : KV, y = { x with pa := ya, pn := np, pc := yc } := ⟨_, rfl⟩
  rw [← hy]
  have HY := Kp.mk hy
  have HYK : Kp (y.k = x.k) := ⟨by rw [hy]⟩
  have HTM : Kp (t < w.heap.size) := ⟨HBT.out.lt⟩
  have K14 : Kp (OF T t x ⟨fe, fs, fm⟩ A F w w14 ∧ BR B b w.heap.size (.slice ya np yc) np pq w14) := ⟨K13.out.1.keep hb, K13.out.2.keep hb, ownsRow_down HBW.size hrow⟩
  clear hb K13 hrow HBW hy
  obtain ⟨T1, hT1⟩ : ∃ T1, T1 = T.putO (d * 8 + f) (nwO now y) := ⟨_, rfl⟩
  obtain ⟨n2, hn2⟩ : ∃ n2 : Nat, n2 = turnUp T1 d 8 := ⟨_, rfl⟩
  obtain ⟨T2, hT2⟩ : ∃ T2, T2 = T1.putW d n2 := ⟨_, rfl⟩
  have HPP : Kp (∀ r w', OfPost (if (n2 : Nat) ≠ f then 1 else turnedV b x.k) 0 T2 t w r w' → BR B b w.heap.size (.slice ya np yc) np pq w' → PutPostN T now d f x np pq t w r w') := ⟨fun r w' hx hbr => by
    refine ⟨ya, yc, ?_, hbr.row⟩
    unfold PutPost
    rw [← HY.out]
    rw [← hT1, ← hn2, ← hT2, HLK.out, HYK.out]
    exact hx⟩
  have HT1 := Kp.mk hT1
  have HN2 := Kp.mk (And.intro hn2 hT2)
  have HW1 : Kp (0 ≤ T1.way d ∧ T1.way d < 8) := ⟨by rw [hT1]; exact HWY.out d HD8.out⟩
  have HN2C : Kp (∀ wx, Blk wx t T2.obj → wx.cell? ⟨t, 1731 + d, none⟩ = some (.int .i64 n2)) := ⟨fun wx hx => (hx.cell _).trans (by rw [List.getElem?_toArray, tc_way T2 HD8.out, hT2]; simp [TB.putW])⟩
  clear hT1 hn2 hT2
  go_upto_region 15 with (first
    | (refine wpList_build_eq rfl 101 #[(0, .const (.bool true)), (1, .tmp 123), (2, .tmp 125)] rfl #[(0, .bool true), (1, .int .i64 now), (2, .agg (knc y).toArray)] (by simp only [List.map_toArray, List.map_cons, List.map_nil]; rfl) (owc (nwO now y)).toArray (builtO now y) ?_)
    | (refine wpList_store_mid rfl 101 (.tmp 127) (.tmp 126) rfl t (3 + d * 216 + f * 27) (owc (nwO now y)).toArray rfl rfl (Blk.there K14.out.1.tt.blk (by rw [tc_len]; have := HD8.out; have := HF8.out; show 3 + d * 216 + f * 27 + 27 ≤ 1739; omega)) (info101s _) (all_oneCell_toArray (owc_one _)) ?_
       have K15 : Kp (OF T1 t x ⟨fe, fs, fm⟩ A F w (w14.setCells t (3 + d * 216 + f * 27) (owc (nwO now y)).toArray.toList) ∧ BR B b w.heap.size (.slice ya np yc) np pq (w14.setCells t (3 + d * 216 + f * 27) (owc (nwO now y)).toArray.toList)) := ⟨K14.out.1.turn (by rw [HT1.out]; exact (Turn.same K14.out.1.tt.blk).putO HD8.out HF8.out (nwO now y)), K14.out.2.cells HTB.out HTM.out _ _⟩
       revert K15
       generalize World.setCells _ _ _ _ = w15
       intro K15))
  clear K14
  obtain ⟨c0, c1, c2, c3⟩ := K15.out.1.at
  rw [HXD.out] at c0
  go_wp2_with fail
  refine (turn_any T1 t d _ K15.out.1.tt.blk HD8.out HW1.out).mono ?_
  rintro r w16 ⟨rfl, hT⟩
  rw [← HN2.out.1, ← HN2.out.2] at hT
  have K15' : Kp (OF T2 t x ⟨fe, fs, fm⟩ A F w w16 ∧ BR B b w.heap.size (.slice ya np yc) np pq w16) := ⟨K15.out.1.turn hT, K15.out.2.turn hT HTB.out HTM.out⟩
  clear hT K15 c0 c1 c2 c3
  have K15 := K15'
  clear K15'
  go_wp2_with fail
  by_cases hnf : n2 = f
  · have hne : ((n2 : Int) != (f : Int)) = false := by simp [hnf]
    have HV : Kp ((if (n2 : Nat) ≠ f then 1 else turnedV b x.k) = turnedV b x.k) := ⟨by simp [hnf]⟩
    clear hnf
    refine wp_region_flow (fun w' => OF T2 t x ⟨fe, fs, fm⟩ A F w w' ∧ BR B b w.heap.size (.slice ya np yc) np pq w') (by kernel_rfl) (by kernel_rfl) (by kernel_rfl)
      (fun _ _ h hb => ⟨h.1.keep hb, h.2.keep hb⟩) (⟨K15.out.1.drew, K15.out.2.draw⟩) ?_
    repeat (first
      | (apply Flow.value
         · rfl
         · (intro wx hS; obtain ⟨c0, c1, c2, c3⟩ := hS.1.at; rw [HXD.out] at c0; have c9 := HN2C.out _ hS.1.tt.blk; go_simp; with_reducible rfl)
         try simp only [Act.put, List.setIfInBounds_toArray, List.set_cons_zero, List.set_cons_succ]))
    refine Flow.done ?_
    intro w17 hS
    have K17 := Kp.mk hS
    clear hS hne K15
    obtain ⟨c0, c1, c2, c3⟩ := K17.out.1.at
    go_wp2_with (refine wpList_load_row rfl 101 (.tmp 15) rfl B rfl 101 (owc b).toArray (0, 0) _ K17.out.2.blk Try.underlying101 rfl (info101s b) ?_)
    refine (turned_any b x.k _).mono ?_
    rintro r w18 ⟨rfl, hb⟩
    have K18 := Kp.mk (And.intro (K17.out.1.tt.more hb) (K17.out.2.keep hb))
    clear hb K17 c0 c1 c2 c3
    go_wp2_with fail
    go_ret2
    exact HPP.out _ _ ⟨by rw [HV.out]; rfl, K18.out.1⟩ K18.out.2
  · have hne : ((n2 : Int) != (f : Int)) = true := by simp; omega
    have HV : Kp ((if (n2 : Nat) ≠ f then 1 else turnedV b x.k) = 1) := ⟨by simp [hnf]⟩
    clear hnf
    refine wp_region_flow (fun w' => OF T2 t x ⟨fe, fs, fm⟩ A F w w' ∧ BR B b w.heap.size (.slice ya np yc) np pq w') (by kernel_rfl) (by kernel_rfl) (by kernel_rfl)
      (fun _ _ h hb => ⟨h.1.keep hb, h.2.keep hb⟩) (⟨K15.out.1.drew, K15.out.2.draw⟩) ?_
    repeat (first
      | (apply Flow.value
         · rfl
         · (intro wx hS; obtain ⟨c0, c1, c2, c3⟩ := hS.1.at; rw [HXD.out] at c0; have c9 := HN2C.out _ hS.1.tt.blk; go_simp; with_reducible rfl)
         try simp only [Act.put, List.setIfInBounds_toArray, List.set_cons_zero, List.set_cons_succ]))
    refine Flow.done ?_
    intro w17 hS
    have K17 := Kp.mk (And.intro hS.1.tt hS.2)
    clear hS hne K15
    go_wp2_with fail
    go_ret2
    exact HPP.out _ _ ⟨by rw [HV.out]; rfl, K17.out.1⟩ K17.out.2
set_option maxRecDepth 100000 in
set_option maxHeartbeats 6400000 in
theorem offer_puts11 (T : TB) (now : Int) (d f : Nat) (x : KV) (fl : K3) (t : Nat) (w : World) (h : Blk w t T.obj) (hxd : x.d = d) (hv : ofOk T now f x = true) (hwy : T.Ways) (np : Nat) (pq : List Int) (hpa : HoldsS w (.slice x.pa x.pn x.pc) np pq ∧ np ≤ 1000000) (hst : (T.off (d * 8 + f)).stands = true) (hcmp : cmpK (T.off (d * 8 + f)).kn.k x.k ≤ 0) (hlt : now < (T.off (d * 8 + f)).until_) (hnw : nwB x.k (T.off (d * 8 + f)).last = true) (hky : (T.off (d * 8 + f)).kn.k ≠ x.k) : Calls Try.prog 14 #[.pointer (some ⟨t, 0, none⟩), .int .i64 now, .int .i64 f, .agg (knc x).toArray, keyV fl, .bool false] w (PutPostN T now d f x np pq t w) := by
  obtain ⟨hd, hf, b1, b2, b3, b4⟩ := ofOk_parts hxd hv
  have hA := fun (w : World) => box_row (t := 51) (cs := knc x) (info51s x) w
  obtain ⟨A, hAe⟩ : ∃ A, A = w.heap.size := ⟨_, rfl⟩
  obtain ⟨F, hFe⟩ : ∃ F, F = A + 1 := ⟨_, rfl⟩
  obtain ⟨W, hW⟩ : ∃ W, W = (w.alloc x.obj).alloc (.cells (kc fl).toArray 47) := ⟨_, rfl⟩
  have H0 : Kp (OF T t x fl A F w W) := ⟨by
    have := h.lt
    rw [hW]
    exact ⟨((Turn.same h).alloc _).alloc _, (Blk.newAt _ hAe).old _, Blk.newAt _ (by rw [hFe, hAe]; simp), by omega, by omega⟩⟩
  have HE := Kp.mk (And.intro hAe hFe)
  have HW := Kp.mk hW
  obtain ⟨fe, fs, fm⟩ := fl
  have H1 := fun W h1 => other_any T t x.d W h1
  have H2 := fun W h1 => other_any T t f W h1
  have H3 := fun W => kright_any x.k W
  have H4 := fun W => time_any now W
  rw [b1] at H1
  rw [b2] at H2
  rw [b3] at H3
  rw [b4] at H4
  have HD8 := Kp.mk hd
  have HF8 := Kp.mk hf
  have HXD := Kp.mk hxd
  have HWY := Kp.mk hwy
  have HPA := Kp.mk hpa
  have HBT := Kp.mk h
  have hd' : (d : Int) < 8 := by omega
  have hf' : (f : Int) < 8 := by omega
  obtain ⟨o, ho⟩ : ∃ o, o = T.off (d * 8 + f) := ⟨_, rfl⟩
  have HO := Kp.mk ho
  have HOC : Kp (∀ wx, Blk wx t T.obj → wx.cell? ⟨t, 3 + d * 216 + f * 27, none⟩ = some (.bool o.stands) ∧ wx.cell? ⟨t, 3 + d * 216 + f * 27 + 1, none⟩ = some (.int .i64 o.told) ∧ wx.cell? ⟨t, 3 + d * 216 + f * 27 + 23, none⟩ = some (.int .i64 o.until_)) := ⟨fun wx hx => ⟨off_cell (j := 0) hx hd hf (by rw [ho]; rfl), off_cell (j := 1) hx hd hf (by rw [ho]; rfl), off_cell (j := 23) hx hd hf (by rw [ho]; rfl)⟩⟩
  have HOK : Kp (∀ wx, Blk wx t T.obj → wx.rangeAt t (3 + d * 216 + f * 27 + 3) (kc o.kn.k)) := ⟨fun wx hx => by rw [ho]; exact off_key hx hd hf⟩
  have HOL : Kp (∀ wx, Blk wx t T.obj → wx.rangeAt t (3 + d * 216 + f * 27 + 24) (kc o.last)) := ⟨fun wx hx => by rw [ho]; exact off_last hx hd hf⟩
  rw [← ho] at hst hcmp hlt hnw hky
  rw [hst] at HOC
  obtain ⟨X, hX⟩ : ∃ X, X = cmpK o.kn.k x.k := ⟨_, rfl⟩
  have HC := fun wx => compare_any o.kn.k x.k wx
  rw [← hX] at HC hcmp
  clear hX
  have hdec : decide (0 < X) = false := by simp; omega
  have hdl : decide (now < o.until_) = true := by simp; omega
  have HNW := fun wx => newer_any x.k o.last wx
  rw [hnw] at HNW
  have HEQ : ∀ wx, (binOp .eql 47 (keyV o.kn.k) (keyV x.k)).run Try.prog wx = .ok (.bool false) wx := fun wx => by rw [eqlK, K3.beq]; simp [hky]
  clear hW hAe hFe h hd hf hxd hv hwy hpa b1 b2 b3 b4 ho hst hcmp hlt hnw hky
  go_enter Try.func14, Try.ntmps14
  go_upto_region 1 with (refine wpList_box_eq rfl 51 (.tmp 3) rfl _ rfl _ _ (hA _) ?_)
  rw [← HW.out, ← HE.out.1, ← HE.out.2]
  clear hA HW
  obtain ⟨c0, c1, c2, c3⟩ := H0.out.at
  go_wp2_with fail
  refine (H1 _ H0.out.tt.blk).mono ?_
  rintro r w1 ⟨rfl, rfl⟩
  go_wp2_with fail
  refine (H2 _ H0.out.tt.blk).mono ?_
  rintro r w1 ⟨rfl, rfl⟩
  go_wp2_with fail
  refine (H3 _).mono ?_
  rintro r w3 ⟨rfl, hb⟩
  have K3 := Kp.mk (H0.out.keep hb)
  clear hb H0 c0 c1 c2 c3 H1 H2 H3
  go_wp2_with fail
  refine (H4 _).mono ?_
  rintro r w4 ⟨rfl, rfl⟩
  clear H4
  go_wp2_with fail
  refine wp_region_flow (fun w' => OF T t x ⟨fe, fs, fm⟩ A F w w') (by kernel_rfl) (by kernel_rfl) (by kernel_rfl)
    (fun _ _ h hb => h.keep hb) (K3.out.drew) ?_
  repeat (first
    | (apply Flow.value
       · rfl
       · (intro wx hS; obtain ⟨c0, c1, c2, c3⟩ := hS.at; rw [HXD.out] at c0; obtain ⟨p0, p1, p23⟩ := HOC.out _ hS.tt.blk; go_simp; with_reducible rfl)
       try simp only [Act.put, List.setIfInBounds_toArray, List.set_cons_zero, List.set_cons_succ]))
  refine Flow.done ?_
  intro w5 hS
  have K5 := Kp.mk hS
  clear hS K3
  go_wp2_with fail
  refine wp_region_flow (fun w' => OF T t x ⟨fe, fs, fm⟩ A F w w') (by kernel_rfl) (by kernel_rfl) (by kernel_rfl)
    (fun _ _ h hb => h.keep hb) (K5.out.drew) ?_
  repeat (first
    | (apply Flow.idle
       · rfl
       try simp only [Act.put, List.setIfInBounds_toArray, List.set_cons_zero, List.set_cons_succ])
    | (apply Flow.value
       · rfl
       · (intro wx hS; exact exec_load_mid (cs := kc o.kn.k) rfl rfl (HOK.out _ hS.tt.blk) Try.underlying47 rfl (by kernel_rfl))
       try simp only [Act.put, List.setIfInBounds_toArray, List.set_cons_zero, List.set_cons_succ])
    | (apply Flow.value
       · rfl
       · (intro wx hS; exact exec_load_mid (cs := kc x.k) rfl rfl (Blk.range (cs := knc x) (o := 1) hS.a rfl) Try.underlying47 rfl (by kernel_rfl))
       try simp only [Act.put, List.setIfInBounds_toArray, List.set_cons_zero, List.set_cons_succ])
    | (apply Flow.call
       · rfl
       · intro wx hS; go_simp; constructor <;> with_reducible rfl
       · intro wx hS; exact HC wx
       try simp only [Act.put, List.setIfInBounds_toArray, List.set_cons_zero, List.set_cons_succ])
    | (apply Flow.value
       · rfl
       · (intro wx hS; obtain ⟨c0, c1, c2, c3⟩ := hS.at; rw [HXD.out] at c0; obtain ⟨p0, p1, p23⟩ := HOC.out _ hS.tt.blk; go_simp; with_reducible rfl)
       try simp only [Act.put, List.setIfInBounds_toArray, List.set_cons_zero, List.set_cons_succ]))
  refine Flow.done ?_
  intro w6 hS
  have K6 := Kp.mk hS
  clear hS K5 HC hdec
  go_wp2_with fail
  refine wp_region_flow (fun w' => OF T t x ⟨fe, fs, fm⟩ A F w w') (by kernel_rfl) (by kernel_rfl) (by kernel_rfl)
    (fun _ _ h hb => h.keep hb) (K6.out.drew) ?_
  repeat (first
    | (apply Flow.idle
       · rfl
       try simp only [Act.put, List.setIfInBounds_toArray, List.set_cons_zero, List.set_cons_succ])
    | (apply Flow.value
       · rfl
       · (intro wx hS; exact exec_load_mid (cs := kc o.last) rfl rfl (HOL.out _ hS.tt.blk) Try.underlying47 rfl (by kernel_rfl))
       try simp only [Act.put, List.setIfInBounds_toArray, List.set_cons_zero, List.set_cons_succ])
    | (apply Flow.value
       · rfl
       · (intro wx hS; exact exec_load_mid (cs := kc x.k) rfl rfl (Blk.range (cs := knc x) (o := 1) hS.a rfl) Try.underlying47 rfl (by kernel_rfl))
       try simp only [Act.put, List.setIfInBounds_toArray, List.set_cons_zero, List.set_cons_succ])
    | (apply Flow.call
       · rfl
       · intro wx hS; go_simp; constructor <;> with_reducible rfl
       · intro wx hS; exact HNW wx
       try simp only [Act.put, List.setIfInBounds_toArray, List.set_cons_zero, List.set_cons_succ])
    | (apply Flow.value
       · rfl
       · (intro wx hS; obtain ⟨c0, c1, c2, c3⟩ := hS.at; rw [HXD.out] at c0; obtain ⟨p0, p1, p23⟩ := HOC.out _ hS.tt.blk; go_simp; with_reducible rfl)
       try simp only [Act.put, List.setIfInBounds_toArray, List.set_cons_zero, List.set_cons_succ]))
  refine Flow.done ?_
  intro w8 hS
  have K8 := Kp.mk hS
  clear hS K6 hdl HNW
  go_wp2_with fail
  refine wp_region_flow (fun w' => OF T t x ⟨fe, fs, fm⟩ A F w w') (by kernel_rfl) (by kernel_rfl) (by kernel_rfl)
    (fun _ _ h hb => h.keep hb) (K8.out.drew) ?_
  repeat (first
    | (apply Flow.idle
       · rfl
       try simp only [Act.put, List.setIfInBounds_toArray, List.set_cons_zero, List.set_cons_succ])
    | (apply Flow.value
       · rfl
       · (intro wx hS; exact exec_load_mid (cs := kc o.kn.k) rfl rfl (HOK.out _ hS.tt.blk) Try.underlying47 rfl (by kernel_rfl))
       try simp only [Act.put, List.setIfInBounds_toArray, List.set_cons_zero, List.set_cons_succ])
    | (apply Flow.value
       · rfl
       · (intro wx hS; exact exec_load_mid (cs := kc x.k) rfl rfl (Blk.range (cs := knc x) (o := 1) hS.a rfl) Try.underlying47 rfl (by kernel_rfl))
       try simp only [Act.put, List.setIfInBounds_toArray, List.set_cons_zero, List.set_cons_succ])
    | (apply Flow.value
       · rfl
       · (intro wx hS; obtain ⟨c0, c1, c2, c3⟩ := hS.at; rw [HXD.out] at c0; obtain ⟨p0, p1, p23⟩ := HOC.out _ hS.tt.blk; go_simp; with_reducible rfl)
       try simp only [Act.put, List.setIfInBounds_toArray, List.set_cons_zero, List.set_cons_succ]))
  refine Flow.done ?_
  intro w10 hS
  have K10 := Kp.mk hS
  clear hS K8 HEQ
  obtain ⟨n, hn⟩ : ∃ n : Nat, T.way d = n := ⟨(T.way d).toNat, by have := HWY.out d HD8.out; omega⟩
  have HNW9 : Kp (T.way d = n ∧ n < 8) := ⟨hn, by have := HWY.out d HD8.out; omega⟩
  have hn8 : (n : Int) < 8 := by have := HNW9.out.2; omega
  obtain ⟨b, hb⟩ : ∃ b, b = T.off (d * 8 + n) := ⟨_, rfl⟩
  have HBE := Kp.mk hb
  have HLK : Kp (lkO T d = b) := ⟨by unfold lkO; rw [hn, hb]; rfl⟩
  clear hn hb
  go_wp2_with fail
  refine wp_region_held_drew (S := OF T t x ⟨fe, fs, fm⟩ A F w) (by kernel_rfl) (K10.out.drew) (fun hH => ?_)
  refine wpAnyH_take (i := 0) (oi := { dst := some 107, op := Go.Op.move (Go.Operand.tmp 0), type := 25, pos := "offer.go:37", after := #[], guard := none }) (v := .pointer (some ⟨t, 0, none⟩)) rfl (by kernel_rfl) (by kernel_rfl) (by kernel_rfl) (fun _ _ _ h => h) (Or.inl ⟨by rfl, fun w hS => by go_simp⟩) hH ?_
  simp only [Act.put, List.setIfInBounds_toArray, List.set_cons_zero, List.set_cons_succ]
  refine wpAnyH_take (i := 1) (oi := { dst := some 108, op := Go.Op.fieldAddr 51 (Go.Operand.tmp 9) 0, type := 0, pos := "offer.go:37", after := #[], guard := none }) (v := .pointer (some ⟨A, 0, none⟩)) rfl (by kernel_rfl) (by kernel_rfl) (by kernel_rfl) (fun _ _ _ h => h) (Or.inl ⟨by rfl, fun w hS => by go_simp⟩) hH ?_
  simp only [Act.put, List.setIfInBounds_toArray, List.set_cons_zero, List.set_cons_succ]
  refine wpAnyH_take (i := 2) (oi := { dst := some 109, op := Go.Op.load 3 (Go.Operand.tmp 108), type := 3, pos := "offer.go:37", after := #[{ on := 1, ground := Go.Ground.data }], guard := none }) (v := .int .i64 d) rfl (by kernel_rfl) (by kernel_rfl) (by kernel_rfl) (fun _ _ _ h => h) (Or.inl ⟨by rfl, fun w hS => by obtain ⟨c0, c1, c2, c3⟩ := hS.at; rw [HXD.out] at c0; go_simp⟩) hH ?_
  simp only [Act.put, List.setIfInBounds_toArray, List.set_cons_zero, List.set_cons_succ]
  refine wpAnyH_take (i := 3) (oi := { dst := some 110, op := Go.Op.move (Go.Operand.tmp 0), type := 25, pos := "offer.go:37", after := #[], guard := none }) (v := .pointer (some ⟨t, 0, none⟩)) rfl (by kernel_rfl) (by kernel_rfl) (by kernel_rfl) (fun _ _ _ h => h) (Or.inl ⟨by rfl, fun w hS => by go_simp⟩) hH ?_
  simp only [Act.put, List.setIfInBounds_toArray, List.set_cons_zero, List.set_cons_succ]
  refine wpAnyH_take (i := 4) (oi := { dst := some 111, op := Go.Op.fieldAddr 51 (Go.Operand.tmp 9) 0, type := 0, pos := "offer.go:37", after := #[], guard := none }) (v := .pointer (some ⟨A, 0, none⟩)) rfl (by kernel_rfl) (by kernel_rfl) (by kernel_rfl) (fun _ _ _ h => h) (Or.inl ⟨by rfl, fun w hS => by go_simp⟩) hH ?_
  simp only [Act.put, List.setIfInBounds_toArray, List.set_cons_zero, List.set_cons_succ]
  refine wpAnyH_take (i := 5) (oi := { dst := some 112, op := Go.Op.load 3 (Go.Operand.tmp 111), type := 3, pos := "offer.go:37", after := #[{ on := 4, ground := Go.Ground.data }], guard := none }) (v := .int .i64 d) rfl (by kernel_rfl) (by kernel_rfl) (by kernel_rfl) (fun _ _ _ h => h) (Or.inl ⟨by rfl, fun w hS => by obtain ⟨c0, c1, c2, c3⟩ := hS.at; rw [HXD.out] at c0; go_simp⟩) hH ?_
  simp only [Act.put, List.setIfInBounds_toArray, List.set_cons_zero, List.set_cons_succ]
  refine wpAnyH_take (i := 6) (oi := { dst := some 113, op := Go.Op.nilCheck (Go.Operand.tmp 110), type := 0, pos := "offer.go:37", after := #[{ on := 3, ground := Go.Ground.data }], guard := none }) (v := .pointer (some ⟨t, 0, none⟩)) rfl (by kernel_rfl) (by kernel_rfl) (by kernel_rfl) (fun _ _ _ h => h) (Or.inl ⟨by rfl, fun w hS => by go_simp⟩) hH ?_
  simp only [Act.put, List.setIfInBounds_toArray, List.set_cons_zero, List.set_cons_succ]
  refine wpAnyH_take (i := 7) (oi := { dst := some 114, op := Go.Op.fieldAddr 105 (Go.Operand.tmp 113) 3, type := 0, pos := "offer.go:37", after := #[{ on := 6, ground := Go.Ground.data }], guard := none }) (v := .pointer (some ⟨t, 1731, none⟩)) rfl (by kernel_rfl) (by kernel_rfl) (by kernel_rfl) (fun _ _ _ h => h) (Or.inl ⟨by rfl, fun w hS => by go_simp⟩) hH ?_
  simp only [Act.put, List.setIfInBounds_toArray, List.set_cons_zero, List.set_cons_succ]
  refine wpAnyH_take (i := 8) (oi := { dst := some 115, op := Go.Op.indexAddr 34 (Go.Operand.tmp 114) (Go.Operand.tmp 112), type := 0, pos := "offer.go:37", after := #[{ on := 7, ground := Go.Ground.data }, { on := 5, ground := Go.Ground.data }], guard := none }) (v := .pointer (some ⟨t, 1731 + d, none⟩)) rfl (by kernel_rfl) (by kernel_rfl) (by kernel_rfl) (fun _ _ _ h => h) (Or.inl ⟨by rfl, fun w hS => by go_simp⟩) hH ?_
  simp only [Act.put, List.setIfInBounds_toArray, List.set_cons_zero, List.set_cons_succ]
  refine wpAnyH_take (i := 9) (oi := { dst := some 116, op := Go.Op.load 3 (Go.Operand.tmp 115), type := 3, pos := "offer.go:37", after := #[{ on := 8, ground := Go.Ground.data }], guard := none }) (v := .int .i64 n) rfl (by kernel_rfl) (by kernel_rfl) (by kernel_rfl) (fun _ _ _ h => h) (Or.inl ⟨by rfl, fun w hS => by have c9 : w.cell? ⟨t, 1731 + d, none⟩ = some (.int .i64 n) := (hS.tt.blk.cell _).trans (by rw [List.getElem?_toArray, tc_way T HD8.out, HNW9.out.1]); go_simp⟩) hH ?_
  simp only [Act.put, List.setIfInBounds_toArray, List.set_cons_zero, List.set_cons_succ]
  refine wpAnyH_take (i := 10) (oi := { dst := some 117, op := Go.Op.nilCheck (Go.Operand.tmp 107), type := 0, pos := "offer.go:37", after := #[{ on := 0, ground := Go.Ground.data }], guard := none }) (v := .pointer (some ⟨t, 0, none⟩)) rfl (by kernel_rfl) (by kernel_rfl) (by kernel_rfl) (fun _ _ _ h => h) (Or.inl ⟨by rfl, fun w hS => by go_simp⟩) hH ?_
  simp only [Act.put, List.setIfInBounds_toArray, List.set_cons_zero, List.set_cons_succ]
  refine wpAnyH_take (i := 11) (oi := { dst := some 118, op := Go.Op.fieldAddr 105 (Go.Operand.tmp 117) 2, type := 0, pos := "offer.go:37", after := #[{ on := 10, ground := Go.Ground.data }], guard := none }) (v := .pointer (some ⟨t, 3, none⟩)) rfl (by kernel_rfl) (by kernel_rfl) (by kernel_rfl) (fun _ _ _ h => h) (Or.inl ⟨by rfl, fun w hS => by go_simp⟩) hH ?_
  simp only [Act.put, List.setIfInBounds_toArray, List.set_cons_zero, List.set_cons_succ]
  refine wpAnyH_take (i := 12) (oi := { dst := some 119, op := Go.Op.indexAddr 103 (Go.Operand.tmp 118) (Go.Operand.tmp 109), type := 0, pos := "offer.go:37", after := #[{ on := 11, ground := Go.Ground.data }, { on := 2, ground := Go.Ground.data }], guard := none }) (v := .pointer (some ⟨t, 3 + d * 216, none⟩)) rfl (by kernel_rfl) (by kernel_rfl) (by kernel_rfl) (fun _ _ _ h => h) (Or.inl ⟨by rfl, fun w hS => by go_simp⟩) hH ?_
  simp only [Act.put, List.setIfInBounds_toArray, List.set_cons_zero, List.set_cons_succ]
  refine wpAnyH_take (i := 13) (oi := { dst := some 120, op := Go.Op.indexAddr 102 (Go.Operand.tmp 119) (Go.Operand.tmp 116), type := 0, pos := "offer.go:37", after := #[{ on := 12, ground := Go.Ground.data }, { on := 9, ground := Go.Ground.data }], guard := none }) (v := .pointer (some ⟨t, 3 + d * 216 + n * 27, none⟩)) rfl (by kernel_rfl) (by kernel_rfl) (by kernel_rfl) (fun _ _ _ h => h) (Or.inl ⟨by rfl, fun w hS => by go_simp⟩) hH ?_
  simp only [Act.put, List.setIfInBounds_toArray, List.set_cons_zero, List.set_cons_succ]
  refine wpAnyH_take (i := 14) (oi := { dst := some 121, op := Go.Op.load 101 (Go.Operand.tmp 120), type := 101, pos := "offer.go:37", after := #[{ on := 13, ground := Go.Ground.data }], guard := none }) (v := .agg (owc b).toArray) rfl (by kernel_rfl) (by kernel_rfl) (by kernel_rfl) (fun _ _ _ h => h) (Or.inl ⟨by rfl, fun w hS => exec_load_mid (cs := owc b) rfl rfl (by rw [HBE.out]; exact off_range hS.tt.blk HD8.out HNW9.out.2) Try.underlying101 rfl (by kernel_rfl)⟩) hH ?_
  simp only [Act.put, List.setIfInBounds_toArray, List.set_cons_zero, List.set_cons_succ]
  refine wpAnyH_ready (rs := [15]) (by kernel_rfl) (by simp) ?_
  refine AllReadyH.cons (o := { dst := some 15, op := Go.Op.alloc 101, type := 0, pos := "offer.go:37", after := #[], guard := none }) rfl (fun K hK => ?_) AllReadyH.nil
  refine wp_alloc_rowO 101 rfl (owc ow0).toArray 27 info101z ?_
  have K11 : Kp (OF T t x ⟨fe, fs, fm⟩ A F w (w10.drew.alloc ow0.obj) ∧ Blk (w10.drew.alloc ow0.obj) w10.drew.heap.size ow0.obj) := ⟨K10.out.drew.keep (more (Below.refl _ _) _), Blk.new _ _⟩
  refine hK.out _ _ (K11.out.1) (fun hHn => ?_)
  clear hK K hH
  have hH := hHn
  clear hHn
  try simp only [Act.put, List.setIfInBounds_toArray, List.set_cons_zero, List.set_cons_succ]
  refine wpAnyH_ready (rs := [16]) (by kernel_rfl) (by simp) ?_
  refine AllReadyH.cons (o := { dst := none, op := Go.Op.store 101 (Go.Operand.tmp 15) (Go.Operand.tmp 121), type := 0, pos := "offer.go:37", after := #[{ on := 15, ground := Go.Ground.data }, { on := 14, ground := Go.Ground.data }, { on := 0, ground := Go.Ground.phase }, { on := 1, ground := Go.Ground.phase }, { on := 2, ground := Go.Ground.phase }, { on := 3, ground := Go.Ground.phase }, { on := 4, ground := Go.Ground.phase }, { on := 5, ground := Go.Ground.phase }, { on := 6, ground := Go.Ground.phase }, { on := 7, ground := Go.Ground.phase }, { on := 8, ground := Go.Ground.phase }, { on := 9, ground := Go.Ground.phase }, { on := 10, ground := Go.Ground.phase }, { on := 11, ground := Go.Ground.phase }, { on := 12, ground := Go.Ground.phase }, { on := 13, ground := Go.Ground.phase }, { on := 14, ground := Go.Ground.phase }, { on := 15, ground := Go.Ground.phase }], guard := none }) rfl (fun K hK => ?_) AllReadyH.nil
  refine wp_store_row 101 (.tmp 15) (.tmp 121) rfl w10.drew.heap.size (owc b).toArray rfl rfl 101 _ K11.out.2 (info101s b) rfl (all_oneCell_toArray (owc_one b)) ?_
  rw [World.setRow_alloc_new]
  have K12 : Kp (OF T t x ⟨fe, fs, fm⟩ A F w (w10.drew.alloc b.obj) ∧ Blk (w10.drew.alloc b.obj) w10.drew.heap.size b.obj) := ⟨K10.out.drew.keep (more (Below.refl _ _) _), Blk.new _ _⟩
  refine hK.out _ _ (K12.out.1) (fun hHn => ?_)
  clear hK K hH
  have hH := hHn
  clear hHn
  try simp only [Act.put]
  clear hH
  refine wpAnyH_done (by kernel_rfl) ?_ _
  clear K10 K11
  obtain ⟨B, hB⟩ : ∃ B, B = w10.heap.size := ⟨_, rfl⟩
  have hB1 : w10.drew.heap.size = B := hB.symm
  have hB2 : w10.heap.size = B := hB.symm
  rw [hB1] at K12
  try rw [hB1]
  try rw [hB2]
  clear hB hB1 hB2
  have K13 := K12
  clear K12
  revert K13
  generalize w10.drew.alloc b.obj = w13
  intro K13
  have HTB : Kp (t ≠ B) := ⟨fun e => by
    have h1 := K13.out.1.tt.blk
    have h2 := K13.out.2
    rw [← e] at h2
    have h3 := (show w13.heap[t]? = _ from h1).symm.trans h2
    injection h3 with e
    injection e with _ e
    exact absurd e (by decide)⟩
  go_wp2_with (refine wpList_load_row rfl 51 (.tmp 9) rfl A rfl 51 (knc x).toArray (0, 0) _ K13.out.1.a Try.underlying51 rfl (info51s x) ?_)
  have HBW := Turn.whole HBT.out K13.out.1.tt
  refine (copied_any x np pq _ (HPA.out.1.keep HBW) HPA.out.2).mono ?_
  rintro r w14 ⟨ya, yc, rfl, hrow, hb⟩
  obtain ⟨y, hy⟩ : ∃ y : KV, y = { x with pa := ya, pn := np, pc := yc } := ⟨_, rfl⟩
  rw [← hy]
  have HY := Kp.mk hy
  have HYK : Kp (y.k = x.k) := ⟨by rw [hy]⟩
  have HTM : Kp (t < w.heap.size) := ⟨HBT.out.lt⟩
  have K14 : Kp (OF T t x ⟨fe, fs, fm⟩ A F w w14 ∧ BR B b w.heap.size (.slice ya np yc) np pq w14) := ⟨K13.out.1.keep hb, K13.out.2.keep hb, ownsRow_down HBW.size hrow⟩
  clear hb K13 hrow HBW hy
  obtain ⟨T1, hT1⟩ : ∃ T1, T1 = T.putO (d * 8 + f) (nwO now y) := ⟨_, rfl⟩
  obtain ⟨n2, hn2⟩ : ∃ n2 : Nat, n2 = turnUp T1 d 8 := ⟨_, rfl⟩
  obtain ⟨T2, hT2⟩ : ∃ T2, T2 = T1.putW d n2 := ⟨_, rfl⟩
  have HPP : Kp (∀ r w', OfPost (if (n2 : Nat) ≠ f then 1 else turnedV b x.k) 0 T2 t w r w' → BR B b w.heap.size (.slice ya np yc) np pq w' → PutPostN T now d f x np pq t w r w') := ⟨fun r w' hx hbr => by
    refine ⟨ya, yc, ?_, hbr.row⟩
    unfold PutPost
    rw [← HY.out]
    rw [← hT1, ← hn2, ← hT2, HLK.out, HYK.out]
    exact hx⟩
  have HT1 := Kp.mk hT1
  have HN2 := Kp.mk (And.intro hn2 hT2)
  have HW1 : Kp (0 ≤ T1.way d ∧ T1.way d < 8) := ⟨by rw [hT1]; exact HWY.out d HD8.out⟩
  have HN2C : Kp (∀ wx, Blk wx t T2.obj → wx.cell? ⟨t, 1731 + d, none⟩ = some (.int .i64 n2)) := ⟨fun wx hx => (hx.cell _).trans (by rw [List.getElem?_toArray, tc_way T2 HD8.out, hT2]; simp [TB.putW])⟩
  clear hT1 hn2 hT2
  go_upto_region 15 with (first
    | (refine wpList_build_eq rfl 101 #[(0, .const (.bool true)), (1, .tmp 123), (2, .tmp 125)] rfl #[(0, .bool true), (1, .int .i64 now), (2, .agg (knc y).toArray)] (by simp only [List.map_toArray, List.map_cons, List.map_nil]; rfl) (owc (nwO now y)).toArray (builtO now y) ?_)
    | (refine wpList_store_mid rfl 101 (.tmp 127) (.tmp 126) rfl t (3 + d * 216 + f * 27) (owc (nwO now y)).toArray rfl rfl (Blk.there K14.out.1.tt.blk (by rw [tc_len]; have := HD8.out; have := HF8.out; show 3 + d * 216 + f * 27 + 27 ≤ 1739; omega)) (info101s _) (all_oneCell_toArray (owc_one _)) ?_
       have K15 : Kp (OF T1 t x ⟨fe, fs, fm⟩ A F w (w14.setCells t (3 + d * 216 + f * 27) (owc (nwO now y)).toArray.toList) ∧ BR B b w.heap.size (.slice ya np yc) np pq (w14.setCells t (3 + d * 216 + f * 27) (owc (nwO now y)).toArray.toList)) := ⟨K14.out.1.turn (by rw [HT1.out]; exact (Turn.same K14.out.1.tt.blk).putO HD8.out HF8.out (nwO now y)), K14.out.2.cells HTB.out HTM.out _ _⟩
       revert K15
       generalize World.setCells _ _ _ _ = w15
       intro K15))
  clear K14
  obtain ⟨c0, c1, c2, c3⟩ := K15.out.1.at
  rw [HXD.out] at c0
  go_wp2_with fail
  refine (turn_any T1 t d _ K15.out.1.tt.blk HD8.out HW1.out).mono ?_
  rintro r w16 ⟨rfl, hT⟩
  rw [← HN2.out.1, ← HN2.out.2] at hT
  have K15' : Kp (OF T2 t x ⟨fe, fs, fm⟩ A F w w16 ∧ BR B b w.heap.size (.slice ya np yc) np pq w16) := ⟨K15.out.1.turn hT, K15.out.2.turn hT HTB.out HTM.out⟩
  clear hT K15 c0 c1 c2 c3
  have K15 := K15'
  clear K15'
  go_wp2_with fail
  by_cases hnf : n2 = f
  · have hne : ((n2 : Int) != (f : Int)) = false := by simp [hnf]
    have HV : Kp ((if (n2 : Nat) ≠ f then 1 else turnedV b x.k) = turnedV b x.k) := ⟨by simp [hnf]⟩
    clear hnf
    refine wp_region_flow (fun w' => OF T2 t x ⟨fe, fs, fm⟩ A F w w' ∧ BR B b w.heap.size (.slice ya np yc) np pq w') (by kernel_rfl) (by kernel_rfl) (by kernel_rfl)
      (fun _ _ h hb => ⟨h.1.keep hb, h.2.keep hb⟩) (⟨K15.out.1.drew, K15.out.2.draw⟩) ?_
    repeat (first
      | (apply Flow.value
         · rfl
         · (intro wx hS; obtain ⟨c0, c1, c2, c3⟩ := hS.1.at; rw [HXD.out] at c0; have c9 := HN2C.out _ hS.1.tt.blk; go_simp; with_reducible rfl)
         try simp only [Act.put, List.setIfInBounds_toArray, List.set_cons_zero, List.set_cons_succ]))
    refine Flow.done ?_
    intro w17 hS
    have K17 := Kp.mk hS
    clear hS hne K15
    obtain ⟨c0, c1, c2, c3⟩ := K17.out.1.at
    go_wp2_with (refine wpList_load_row rfl 101 (.tmp 15) rfl B rfl 101 (owc b).toArray (0, 0) _ K17.out.2.blk Try.underlying101 rfl (info101s b) ?_)
    refine (turned_any b x.k _).mono ?_
    rintro r w18 ⟨rfl, hb⟩
    have K18 := Kp.mk (And.intro (K17.out.1.tt.more hb) (K17.out.2.keep hb))
    clear hb K17 c0 c1 c2 c3
    go_wp2_with fail
    go_ret2
    exact HPP.out _ _ ⟨by rw [HV.out]; rfl, K18.out.1⟩ K18.out.2
  · have hne : ((n2 : Int) != (f : Int)) = true := by simp; omega
    have HV : Kp ((if (n2 : Nat) ≠ f then 1 else turnedV b x.k) = 1) := ⟨by simp [hnf]⟩
    clear hnf
    refine wp_region_flow (fun w' => OF T2 t x ⟨fe, fs, fm⟩ A F w w' ∧ BR B b w.heap.size (.slice ya np yc) np pq w') (by kernel_rfl) (by kernel_rfl) (by kernel_rfl)
      (fun _ _ h hb => ⟨h.1.keep hb, h.2.keep hb⟩) (⟨K15.out.1.drew, K15.out.2.draw⟩) ?_
    repeat (first
      | (apply Flow.value
         · rfl
         · (intro wx hS; obtain ⟨c0, c1, c2, c3⟩ := hS.1.at; rw [HXD.out] at c0; have c9 := HN2C.out _ hS.1.tt.blk; go_simp; with_reducible rfl)
         try simp only [Act.put, List.setIfInBounds_toArray, List.set_cons_zero, List.set_cons_succ]))
    refine Flow.done ?_
    intro w17 hS
    have K17 := Kp.mk (And.intro hS.1.tt hS.2)
    clear hS hne K15
    go_wp2_with fail
    go_ret2
    exact HPP.out _ _ ⟨by rw [HV.out]; rfl, K17.out.1⟩ K17.out.2
end Go.Proofs.Ytfpmmbbbndobiaa
