/-
  Are two updates the same?
-/
import Derived.Test.YtgabjmmmiogfjaaDoorFuN
namespace Go.Proofs.YtgabjmmmiogfjaaDoor
open Go.RowKit

theorem info52s : (Tryd.prog.info? 52).map (·.size) = some 2 := by kernel_rfl
theorem ec_at0 {w : World} {b o : Nat} {x : EV} (h : w.rangeAt b o (ec x)) : w.cell? ⟨b, o, none⟩ = some (.int .i64 x.d) := h 0 _ (ec_0 x)
theorem ec_key {w : World} {b o : Nat} {x : EV} (h : w.rangeAt b o (ec x)) : w.rangeAt b (o + 1) [.int .u32 x.e, .int .u32 x.s, .int .i64 x.m] := fun j u hu => by
  match j, hu with
  | 0, hu => exact h 1 _ hu
  | 1, hu => exact h 2 _ hu
  | 2, hu => exact h 3 _ hu
theorem ec_cred {w : World} {b o : Nat} {x : EV} (h : w.rangeAt b o (ec x)) : w.rangeAt b (o + 4) (cc x.lf x.wa x.wn x.wc x.pa x.pn x.pc) := fun j u hu => by
  rw [show o + 4 + j = o + (4 + j) by omega]
  refine h (4 + j) u ?_
  have e : ec x = [.int .i64 x.d, .int .u32 x.e, .int .u32 x.s, .int .i64 x.m] ++ cc x.lf x.wa x.wn x.wc x.pa x.pn x.pc := by simp [ec, cc]
  rw [e, List.getElem?_append_right (by simp)]
  simpa using hu
/-- The same entry, wherever its rows stand. -/
def SameE (x y : E3) : Prop := x.1.d = y.1.d ∧ x.1.e = y.1.e ∧ x.1.s = y.1.s ∧ x.1.m = y.1.m ∧ x.1.lf = y.1.lf ∧ x.1.wn = y.1.wn ∧ x.1.pn = y.1.pn ∧ x.2.1 = y.2.1 ∧ x.2.2 = y.2.2
/-- An entry in memory; its rows, where they aren't empty, below M. -/
structure EIw (w : World) (M : Nat) (z : E3) : Prop where
  l : z.1.lf.length = 16
  b : Bytes z.1.lf
  e : 0 ≤ z.1.e ∧ z.1.e ≤ 4294967295
  s : 0 ≤ z.1.s ∧ z.1.s ≤ 4294967295
  wn : z.1.wn ≤ 20
  pn : z.1.pn ≤ 20
  hw : HoldsS w (.slice z.1.wa z.1.wn z.1.wc) z.1.wn z.2.1
  hp : HoldsS w (.slice z.1.pa z.1.pn z.1.pc) z.1.pn z.2.2
  wb : 0 < z.1.wn → ∀ b, (Value.slice z.1.wa z.1.wn z.1.wc).ownBlock = some b → b < M
  pb : 0 < z.1.pn → ∀ b, (Value.slice z.1.pa z.1.pn z.1.pc).ownBlock = some b → b < M
theorem EIw.keep {w w' : World} {M : Nat} {z : E3} (h : EIw w M z) (hb : Below w.heap.size w w') : EIw w' M z := ⟨h.l, h.b, h.e, h.s, h.wn, h.pn, h.hw.keep hb, h.hp.keep hb, h.wb, h.pb⟩
structure HoldsW (w : World) (M : Nat) (a : Option Addr) (n : Nat) (f : Nat → E3) : Prop where
  e : ∀ i, i < n → EIw w M (f i)
  c : ∀ i, i < n → ∃ b off, a = some ⟨b, off, none⟩ ∧ b < M ∧ b < w.heap.size ∧ w.rangeAt b (off + i * 22) (ec (f i).1)
theorem HoldsW.keep {w w' : World} {M n : Nat} {a : Option Addr} {f : Nat → E3} (h : HoldsW w M a n f) (hb : Below w.heap.size w w') : HoldsW w' M a n f :=
  ⟨fun i hi => (h.e i hi).keep hb, fun i hi => by
    obtain ⟨b, off, e1, e2, e3, e4⟩ := h.c i hi
    exact ⟨b, off, e1, e2, Nat.lt_of_lt_of_le e3 hb.size, rangeAt_keepU e4 (hb.block _ e3)⟩⟩
theorem HoldsE.weak {w : World} {M n : Nat} {a : Option Addr} {f : Nat → E3} (h : HoldsE w M a n f) : HoldsW w M a n f :=
  ⟨fun i hi => ⟨(h.e i hi).l, (h.e i hi).b, (h.e i hi).e, (h.e i hi).s, (h.e i hi).wn, (h.e i hi).pn, (h.e i hi).hw, (h.e i hi).hp, fun _ => (h.e i hi).wb, fun _ => (h.e i hi).pb⟩, h.c⟩
/-- Two updates in their cells. -/
structure SU (w : World) (A M K : Nat) (u : Bool) (n : Nat) (a : Option Addr) (c : Nat) (a2 : Option Addr) (c2 : Nat) (f g : Nat → E3) (W : World) : Prop where
  r1 : Blk W A (.cells #[.bool u, .slice a n c] 52)
  r2 : Blk W (A + 1) (.cells #[.bool u, .slice a2 n c2] 52)
  e1 : HoldsW W M a n f
  e2 : HoldsW W K a2 n g
  below : Below A w W
theorem SU.more {w W W' : World} {A M K : Nat} {u : Bool} {n : Nat} {a : Option Addr} {c : Nat} {a2 : Option Addr} {c2 : Nat} {f g : Nat → E3} (h : SU w A M K u n a c a2 c2 f g W) (hb : Below W.heap.size W W') : SU w A M K u n a c a2 c2 f g W' :=
  ⟨h.r1.keep hb, h.r2.keep hb, h.e1.keep hb, h.e2.keep hb, h.below.trans (hb.mono (Nat.le_of_lt h.r1.lt))⟩
theorem EIw.cred {w : World} {M : Nat} {z : E3} (h : EIw w M z) : CredIn w z.1.lf z.1.wa z.1.wn z.1.wc z.1.pa z.1.pn z.1.pc z.2.1 z.2.2 := ⟨h.l, h.b, h.hw, h.hp, by have := h.wn; omega, by have := h.pn; omega⟩
set_option maxRecDepth 100000 in
set_option maxHeartbeats 16000000 in
theorem sameUpdate_any (M K : Nat) (u : Bool) (n : Nat) (a : Option Addr) (c : Nat) (a2 : Option Addr) (c2 : Nat) (f g : Nat → E3) (w : World) (h1 : HoldsW w M a n f) (h2 : HoldsW w K a2 n g) (hs : ∀ i, i < n → SameE (f i) (g i)) (hn : n ≤ 1000000) :
    Calls Tryd.prog 26 #[.agg #[.bool u, .slice a n c], .agg #[.bool u, .slice a2 n c2]] w fun r w' => r = .returned (.bool true) ∧ Below w.heap.size w w' := by
  obtain ⟨A, hA⟩ : ∃ A, A = w.heap.size := ⟨_, rfl⟩
  have HAe := Kp.mk hA
  have HSM := Kp.mk hs
  have S0 : Kp (SU w A M K u n a c a2 c2 f g ((w.alloc (.cells #[.bool u, .slice a n c] 52)).alloc (.cells #[.bool u, .slice a2 n c2] 52))) := ⟨(Blk.newAt _ hA).old _, Blk.newAt _ (by simp [hA]), (h1.keep (more (Below.refl _ _) _)).keep (more (Below.refl _ _) _), (h2.keep (more (Below.refl _ _) _)).keep (more (Below.refl _ _) _), by rw [hA]; exact more (more (Below.refl _ _) _) _⟩
  have b1 : (u == u) = true := by simp
  have b2 : (u != u) = false := by simp
  have n1 : ((n : Int) == n) = true := by simp
  have n2 : ((n : Int) != n) = false := by simp
  clear h1 h2 hs
  go_enter Tryd.func26, Tryd.ntmps26
  go_wp2_with fail
  rw [← hA]
  clear hA
  generalize (w.alloc (.cells #[.bool u, .slice a n c] 52)).alloc (.cells #[.bool u, .slice a2 n c2] 52) = W at *
  clear b1 b2 n1 n2
  go_loopw [5] (fun ct wr => ∃ i : Nat, i ≤ n ∧ ct = .int .i64 i ∧ Kp (SU w A M K u n a c a2 c2 f g wr)) (fun ct _ => n - (intOf ct).toNat)
  case atStart => exact ⟨0, by omega, rfl, S0⟩
  case round =>
    obtain ⟨i, hi, rfl, HS⟩ := hrel
    obtain ⟨p0, p1, -, -⟩ := HS.out.r1.two
    obtain ⟨q0, q1, -, -⟩ := HS.out.r2.two
    by_cases hlt : i < n
    · obtain ⟨b, off, rfl, -, hb1, k1⟩ := HS.out.e1.c i hlt
      obtain ⟨b2, off2, rfl, -, hb2, k2⟩ := HS.out.e2.c i hlt
      have HE1 := Kp.mk (HS.out.e1.e i hlt)
      have HE2 := Kp.mk (HS.out.e2.e i hlt)
      have hsm := HSM.out i hlt
      obtain ⟨x, hx⟩ : ∃ x, x = f i := ⟨_, rfl⟩
      obtain ⟨y, hy⟩ : ∃ y, y = g i := ⟨_, rfl⟩
      rw [← hx] at hsm HE1 k1
      rw [← hy] at hsm HE2 k2
      clear hx hy
      obtain ⟨⟨d, e, s, m, lf, wa, wn, wc, pa, pn, pc⟩, wl, pl⟩ := x
      obtain ⟨⟨d', e', s', m', lf', wa', wn', wc', pa', pn', pc'⟩, wl', pl'⟩ := y
      obtain ⟨g1, g2, g3, g4, g5, g6, g7, g8, g9⟩ := hsm
      simp only at g1 g2 g3 g4 g5 g6 g7 g8 g9
      subst g1 g2 g3 g4 g5 g6 g7 g8 g9
      have HC : Kp (SU w A M K u n (some ⟨b, off, none⟩) c (some ⟨b2, off2, none⟩) c2 f g wr.drew ∧ wr.drew.rangeAt b (off + i * 22) (ec ⟨d, e, s, m, lf, wa, wn, wc, pa, pn, pc⟩) ∧ wr.drew.rangeAt b2 (off2 + i * 22) (ec ⟨d, e, s, m, lf, wa', wn, wc', pa', pn, pc'⟩) ∧ (b < wr.drew.heap.size ∧ b2 < wr.drew.heap.size) ∧ CredIn wr.drew lf wa wn wc pa pn pc wl pl ∧ CredIn wr.drew lf wa' wn wc' pa' pn pc' wl pl) :=
        ⟨HS.out.more (Below.refl _ _).drew, rangeAt_keepU k1 ((Below.refl wr.heap.size wr).drew.block _ hb1), rangeAt_keepU k2 ((Below.refl wr.heap.size wr).drew.block _ hb2), ⟨hb1, hb2⟩, HE1.out.cred.keep (Below.refl _ _).drew, HE2.out.cred.keep (Below.refl _ _).drew⟩
      have HL := Kp.mk HE1.out.l
      have d1 : (d == d) = true := by simp
      have d2 : (d != d) = false := by simp
      have e1 : (e == e) = true := by simp
      have s1 : (s == s) = true := by simp
      have m1 : (m == m) = true := by simp
      have HC18 : Kp ((Tryd.prog.info? 103).map (·.size) = some (cc lf wa wn wc pa pn pc).length ∧ (Tryd.prog.info? 103).map (·.size) = some (cc lf wa' wn wc' pa' pn pc').length) := ⟨by rw [cc_len HL.out]; kernel_rfl, by rw [cc_len HL.out]; kernel_rfl⟩
      clear k1 k2 hb1 hb2 HE1 HE2
      go_wp2_with fail
      clear p0 p1 q0 q1 HS
      refine wp_region_flow (fun w' => SU w A M K u n (some ⟨b, off, none⟩) c (some ⟨b2, off2, none⟩) c2 f g w' ∧ w'.rangeAt b (off + i * 22) (ec ⟨d, e, s, m, lf, wa, wn, wc, pa, pn, pc⟩) ∧ w'.rangeAt b2 (off2 + i * 22) (ec ⟨d, e, s, m, lf, wa', wn, wc', pa', pn, pc'⟩) ∧ (b < w'.heap.size ∧ b2 < w'.heap.size) ∧ CredIn w' lf wa wn wc pa pn pc wl pl ∧ CredIn w' lf wa' wn wc' pa' pn pc' wl pl) (by kernel_rfl) (by kernel_rfl) (by kernel_rfl)
        (fun w1 w2 h hb => ⟨h.1.more hb, rangeAt_keepU h.2.1 (hb.block _ h.2.2.2.1.1), rangeAt_keepU h.2.2.1 (hb.block _ h.2.2.2.1.2), ⟨Nat.lt_of_lt_of_le h.2.2.2.1.1 hb.size, Nat.lt_of_lt_of_le h.2.2.2.1.2 hb.size⟩, h.2.2.2.2.1.keep hb, h.2.2.2.2.2.keep hb⟩) HC.out ?_
      repeat (first
        | (apply Flow.value
           · rfl
           · (intro wx hS; exact exec_load_mid rfl rfl (ec_key hS.2.1) Tryd.underlying100 rfl (by kernel_rfl))
           try simp only [Act.put, List.setIfInBounds_toArray, List.set_cons_zero, List.set_cons_succ])
        | (apply Flow.value
           · rfl
           · (intro wx hS; exact exec_load_mid rfl rfl (ec_key hS.2.2.1) Tryd.underlying100 rfl (by kernel_rfl))
           try simp only [Act.put, List.setIfInBounds_toArray, List.set_cons_zero, List.set_cons_succ])
        | (apply Flow.value
           · rfl
           · (intro wx hS; exact exec_load_mid rfl rfl (ec_cred hS.2.1) Tryd.underlying103 rfl HC18.out.1)
           try simp only [Act.put, List.setIfInBounds_toArray, List.set_cons_zero, List.set_cons_succ])
        | (apply Flow.value
           · rfl
           · (intro wx hS; exact exec_load_mid rfl rfl (ec_cred hS.2.2.1) Tryd.underlying103 rfl HC18.out.2)
           try simp only [Act.put, List.setIfInBounds_toArray, List.set_cons_zero, List.set_cons_succ])
        | (apply Flow.value
           · rfl
           · (intro wx hS; have c1 := (hS.1.r1.cell 1); have c2 := (hS.1.r2.cell 1); have c3 := ec_at0 hS.2.1; have c4 := ec_at0 hS.2.2.1; clear hS; go_simp; with_reducible rfl)
           try simp only [Act.put, List.setIfInBounds_toArray, List.set_cons_zero, List.set_cons_succ]))
      refine Flow.call (f := 66) (args := #[.agg (cc lf wa wn wc pa pn pc).toArray, .agg (cc lf wa' wn wc' pa' pn pc').toArray]) (v := .bool true) rfl (fun wx hS => by clear hS; first | (go_simp; done) | (go_simp; with_reducible rfl)) (fun wx hS => (samecred_any lf wa wn wc pa pn pc wa' wc' pa' pc' wl pl wx hS.2.2.2.2.1 hS.2.2.2.2.2).mono fun r w9 h => by obtain ⟨h1, h2⟩ := h; exact ⟨h1, h2⟩) ?_
      try simp only [Act.put, List.setIfInBounds_toArray, List.set_cons_zero, List.set_cons_succ]
      repeat (
        apply Flow.value
        · rfl
        · (intro wx hS; clear hS; go_simp; with_reducible rfl)
        try simp only [Act.put, List.setIfInBounds_toArray, List.set_cons_zero, List.set_cons_succ])
      refine Flow.done ?_
      intro w4 hS
      have HS4 := Kp.mk hS.1
      clear hS d1 d2 e1 s1 m1
      go_wp2_with fail
      exact ⟨⟨i + 1, by omega, by go_num, HS4⟩, by simp [intOf]; omega⟩
    · obtain rfl : i = n := by omega
      go_wp2_with fail
      go_ret
      exact ⟨rfl, by rw [← HAe.out]; exact HS.out.below⟩
end Go.Proofs.YtgabjmmmiogfjaaDoor
