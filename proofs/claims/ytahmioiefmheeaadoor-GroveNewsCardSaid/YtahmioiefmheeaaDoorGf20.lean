/-
  The document's Rise.
-/
import Derived.Test.YtahmioiefmheeaaDoorGf19
namespace Go.Proofs.YtahmioiefmheeaaDoor
open Go.RowKit

set_option maxRecDepth 100000 in
set_option maxHeartbeats 1000000 in
theorem rjoinT_fresh (d e s r : Int) (x y : List Int) (w : World) (he : 0 ≤ e ∧ e < 4294967296) (hs : 0 ≤ s ∧ s < 4294967296) (hx : x.length = 16) (hxb : Bytes x) (hy : y.length = 16) (hyb : Bytes y) :
    Calls Tryd.prog 39 #[plV d e s, .int .i64 r, dgV x, dgV y] w fun q w' => ∃ v', q = .returned v' ∧ HoldsB w' w'.heap.size v' (joinT d e s r x y) ∧ (∀ g, v'.ownBlock = some g → w.heap.size ≤ g) ∧ Below w.heap.size w w' := by
  have HE := Kp.mk he
  have HS := Kp.mk hs
  have HX := Kp.mk hx
  have HXB := Kp.mk hxb
  have HY := Kp.mk hy
  have HYB := Kp.mk hyb
  clear he hs hx hxb hy hyb
  go_enter Tryd.func39, Tryd.ntmps39
  go_wp2_with fail
  obtain ⟨A, hA⟩ : ∃ A, A = w.heap.size := ⟨_, rfl⟩
  have HA := Kp.mk hA
  rw [← hA]
  refine wp_world (fun W => Blk W A (.cells #[.int .i64 d, .int .u32 e, .int .u32 s] 48) ∧ Row W (A + 1) 32 .u8 x ∧ Row W (A + 2) 32 .u8 y ∧ Below A w W) ⟨?_, ?_, ?_, ?_⟩ ?_
  · exact Blk.old (Blk.old (Blk.newAt _ hA) _) _
  · exact Blk.old (Blk.newAt _ (by simp [hA])) _
  · exact Blk.newAt _ (by simp [hA])
  · rw [hA]; exact more (more (more (Below.refl _ _) _) _) _
  rw [show A + 1 + 1 = A + 2 from rfl]
  clear hA
  rintro W ⟨h1, h2, h3, h5⟩
  refine wp_region_pred (fun w' => Blk w' A (.cells #[.int .i64 d, .int .u32 e, .int .u32 s] 48) ∧ Row w' (A + 1) 32 .u8 x ∧ Row w' (A + 2) 32 .u8 y ∧ Below A w w') [0, 1, 2, 3, 4, 5, 6] [7]
    (fun i w' v => match i with
      | 0 => v = plV d e s
      | 1 => v = .int .i64 r
      | 2 => HoldsB w' w'.heap.size v (placeL d e s r)
      | 3 => v = .slice (some ⟨A + 1, 0, none⟩) 16 16
      | 4 => v = .slice (some ⟨A + 2, 0, none⟩) 16 16
      | 5 => HoldsP w' v [placeL d e s r, x, y]
      | _ => HoldsB w' w'.heap.size v (joinT d e s r x y) ∧ ∀ g, v.ownBlock = some g → A ≤ g)
    [[], [], [(0, some 9), (1, some 10)], [], [], [(2, some 11), (3, some 12), (4, some 13)], [(2, some 11), (5, some 14)]] [(0, some 9), (1, some 10), (2, some 11), (3, some 12), (4, some 13), (5, some 14), (6, some 15)]
    (by kernel_rfl) (by kernel_rfl) (by kernel_rfl) (by kernel_rfl) (by kernel_rfl) (by kernel_rfl) (by decide) (by decide) (fun w1 w2 h hb => ⟨h.1.keep hb, h.2.1.keep hb, h.2.2.1.keep hb, h.2.2.2.trans (hb.mono (Nat.le_of_lt h.1.lt))⟩) ?_ ⟨h1.draw, h2.drew, h3.drew, h5.drew⟩ ?_ ?_
  · intro i w1 w2 v h hb
    match i, h with
    | 0, h => exact h
    | 1, h => exact h
    | 2, h => exact (HoldsB.keep h hb).mono hb.size
    | 3, h => exact h
    | 4, h => exact h
    | 5, h => exact HoldsP.keep h hb
    | _ + 6, h => exact ⟨(HoldsB.keep h.1 hb).mono hb.size, h.2⟩
  · refine ⟨fun γ wx hS h => ⟨_, rfl, Or.inl ⟨rfl, ?_⟩⟩, fun γ wx hS h => ⟨_, rfl, Or.inl ⟨rfl, ?_⟩⟩, fun γ wx hS h => ⟨_, rfl, Or.inl ⟨rfl, ?_⟩⟩, fun γ wx hS h => ⟨_, rfl, Or.inl ⟨rfl, ?_⟩⟩, fun γ wx hS h => ⟨_, rfl, Or.inl ⟨rfl, ?_⟩⟩, fun γ wx hS h => ⟨_, rfl, Or.inl ⟨rfl, ?_⟩⟩, fun γ wx hS h => ⟨_, rfl, Or.inl ⟨rfl, ?_⟩⟩, trivial⟩
    · exact predRun_value (exec_load_blk 48 (.tmp 4) rfl A rfl 48 _ (0, 0) _ hS.1 Tryd.underlying48 rfl (cells48 d e s)) rfl
    · exact predRun_value rfl rfl
    · obtain ⟨h0, h1⟩ := h
      refine predRun_call (f := 98) (args := #[γ 0, γ 1]) (by simp only [putE]; go_simp) ?_
      rw [show γ 0 = plV d e s from h0, show γ 1 = .int .i64 r from h1]
      exact rplace_any d e s r wx HE.out HS.out
    · exact predRun_value (v := .slice (some ⟨A + 1, 0, none⟩) 16 16) (by simp only [putE]; have hs := slice32_all; go_simp) rfl
    · exact predRun_value (v := .slice (some ⟨A + 2, 0, none⟩) 16 16) (by simp only [putE]; have hs := slice32_all; go_simp) rfl
    · obtain ⟨h2, h3, h4⟩ := h
      have h3' : γ 3 = .slice (some ⟨A + 1, 0, none⟩) 16 16 := h3
      have h4' : γ 4 = .slice (some ⟨A + 2, 0, none⟩) 16 16 := h4
      have h2' : HoldsB wx wx.heap.size (γ 2) (placeL d e s r) := h2
      obtain ⟨a, n, c, e2, _⟩ := h2'.slice
      rw [e2] at h2'
      refine predRun_new (w' := wx.alloc (.cells #[.slice a n c, .slice (some ⟨A + 1, 0, none⟩) 16 16, .slice (some ⟨A + 2, 0, none⟩) 16 16] 22)) (v := .slice (some ⟨wx.heap.size, 0, none⟩) 3 3) (by simp only [putE, e2, h3', h4']; go_simp) (more (Below.refl _ _) _) ?_
      exact holdsP_three h2' (hold16 hS.2.1 HX.out HXB.out) (hold16 hS.2.2.1 HY.out HYB.out)
    · obtain ⟨_, h5⟩ := h
      have h5' : HoldsP wx (γ 5) [placeL d e s r, x, y] := h5
      obtain ⟨a, n, c, e5, _⟩ := h5'.slice
      rw [e5] at h5'
      refine predRun_call (f := 90) (args := #[.int .u8 74, γ 5]) (by simp only [putE]; go_simp) ?_
      rw [e5]
      refine (rtext_any 74 a n c _ wx (by omega) h5' (by simp [placeL_len, HX.out, HY.out])).mono ?_
      rintro q w2 ⟨v', rfl, hh, hf, hb⟩
      exact ⟨v', rfl, ⟨(joinT_flat d e s r x y) ▸ hh, fun g hg => by have := hf g hg; have := hS.1.lt; omega⟩, hb⟩
  · intro γ w9 hS h
    have h6 : HoldsB w9 w9.heap.size (γ 6) (joinT d e s r x y) ∧ ∀ g, (γ 6).ownBlock = some g → A ≤ g := h.2.2.2.2.2.2
    have HB := Kp.mk hS.2.2.2
    have H6 := Kp.mk h6
    simp only [putE, Act.put, List.setIfInBounds_toArray, List.set_cons_zero, List.set_cons_succ]
    clear h hS h6
    generalize γ 6 = v6 at *
    refine wpOps_step rfl rfl ?_
    refine wp_assign_end rfl rfl ?_
    refine wpOps_done ?_
    go_wp2_with fail
    go_ret
    exact ⟨_, rfl, H6.out.1, by rw [← HA.out]; exact H6.out.2, by rw [← HA.out]; exact HB.out⟩
theorem HoldsB.kept {w w' : World} {M M' : Nat} {a : Option Addr} {n c : Nat} {l : List Int} (h : HoldsB w M (.slice a n c) l) (hM : M ≤ M') (hs : w.heap.size ≤ w'.heap.size) (hb : ∀ x, a = some x → x.block < w.heap.size → w'.heap[x.block]? = w.heap[x.block]?) : HoldsB w' M' (.slice a n c) l := by
  obtain ⟨a', c', e, h2, h3, h4, h5, h6, h7⟩ := h
  obtain ⟨rfl, -, -⟩ : a = a' ∧ n = l.length ∧ c = c' := by simpa using e
  refine ⟨a, c', e, h2, h3, h4, fun x hx h0 => ?_, fun x i hx hi => ?_, h7⟩
  · obtain ⟨k1, k2, k3⟩ := h5 x hx h0
    exact ⟨k1, by omega, by omega⟩
  · obtain ⟨k1, k2, k3⟩ := h5 x hx (by omega)
    exact (World.cell?_of_block (w := w) (a := ⟨x.block, x.off + i, Option.none⟩) (hb x hx k3)).trans (h6 x i hx hi)
/-- Texts that the call made, in a row of its own that none of them lies in. -/
def TextsO (w : World) (K : Nat) (v : Value) (ts : List (List Int)) : Prop :=
  ∃ vs : List Value, w.ownsRow K 22 1 v ts.length vs ∧ ∀ i, i < ts.length → ∃ a n c, vs[i]? = some (.slice a n c) ∧ HoldsB w w.heap.size (.slice a n c) (ts.getD i []) ∧ 0 < (ts.getD i []).length ∧ ∀ x, a = some x → v.ownBlock ≠ some x.block ∧ K ≤ x.block
theorem TextsO.nil (w : World) (K : Nat) : TextsO w K (.slice none 0 0) [] := ⟨[], World.ownsRow_nil _ _ _ _, fun i hi => by simp at hi⟩
theorem TextsO.frame {w w' : World} {K : Nat} {v : Value} {ts : List (List Int)} {row : Option Nat} (h : TextsO w K v ts) (hg : w.grownBy w' row) (hr : ∀ g, row = some g → g < K) : TextsO w' K v ts := by
  obtain ⟨vs, h1, h3⟩ := h
  refine ⟨vs, h1.kept hg ?_, fun i hi => ?_⟩
  · cases hv : v.ownBlock with
    | none => exact .inl rfl
    | some k =>
      refine .inr fun e => ?_
      have := (h1.lt k hv).1
      have := hr k e.symm
      omega
  · obtain ⟨a, n, c, e, hh, h0, hn⟩ := h3 i hi
    refine ⟨a, n, c, e, hh.kept hg.size hg.size fun x hx hlt => hg.block x.block hlt fun e => ?_, h0, hn⟩
    have := hr _ e.symm
    have := (hn x hx).2
    omega
theorem TextsO.below {w w' : World} {K : Nat} {v : Value} {ts : List (List Int)} (h : TextsO w K v ts) (hb : Below w.heap.size w w') : TextsO w' K v ts :=
  h.frame (row := none) ⟨hb.os, hb.tape, hb.output, hb.size, fun k hk _ => hb.block k hk⟩ fun g e => by cases e
theorem TextsO.set {w : World} {K g : Nat} {v : Value} {ts : List (List Int)} (h : TextsO w K v ts) (hg : g < K) (cs : Array Value) : TextsO (w.setRow g cs) K v ts :=
  h.frame (row := some g) ⟨rfl, rfl, rfl, by simp [World.setRow], fun k hk hne => setRow_ne cs fun e => hne (by rw [e])⟩ fun g' e => by simp at e; omega
theorem TextsO.drew {w : World} {K : Nat} {v : Value} {ts : List (List Int)} (h : TextsO w K v ts) : TextsO w.drew K v ts := h.frame (row := none) ⟨rfl, rfl, rfl, Nat.le_refl _, fun _ _ _ => rfl⟩ fun g e => by cases e
theorem TextsO.holds {w : World} {K : Nat} {v : Value} {ts : List (List Int)} (h : TextsO w K v ts) : HoldsP w v ts := by
  obtain ⟨vs, h1, h3⟩ := h
  rcases h1.2 with ⟨rfl, hn⟩ | ⟨g, cap, cur, rfl, hb, hg, hle, hcap, hsz, ht⟩
  · have : ts = [] := List.length_eq_zero_iff.1 hn
    subst this
    exact ⟨none, 0, rfl, by unfold maxLen; simp, fun i hi => by simp at hi⟩
  · refine ⟨_, cap, rfl, by omega, fun i hi => ?_⟩
    obtain ⟨a, n, c, e, hh, _⟩ := h3 i hi
    refine ⟨g, 0, a, n, c, rfl, (Array.getElem?_eq_some_iff.1 hg).1, ?_, hh⟩
    rw [cell_of_row w g (0 + i) cur 22 (0, 0) hg, Nat.zero_add, ← Array.getElem?_toList, ← e, ← ht, List.getElem?_take, if_pos (by omega)]
theorem HoldsP.nil (w : World) : HoldsP w (.slice none 0 0) [] := ⟨none, 0, rfl, by unfold maxLen; simp, fun i hi => by simp at hi⟩
/-- append of a text to such texts. -/
theorem wpList_append_texto {w : World} {ops : Array Oper} {rest : List Oper} {o : Oper} {a : Act} {Q : Exit → Act → World → Prop} (hgd : o.guard = none) (s x : Operand)
    (ho : o.op = .call { callee := .builtin .append, args := #[s, x], argTypes := #[31, 31] })
    (K : Nat) (v : Value) (ts : List (List Int)) (hs : a.eval s = v) (ht : TextsO w K v ts) (E : Nat) (a1 : Option Addr) (n c : Nat) (t : List Int) (hx : a.eval x = .slice (some ⟨E, 0, none⟩) 1 1) (hE : w.cell? ⟨E, 0, none⟩ = some (.slice a1 n c))
    (hh : HoldsB w w.heap.size (.slice a1 n c) t) (hne : ∀ x, a1 = some x → v.ownBlock ≠ some x.block ∧ K ≤ x.block) (h0 : 0 < t.length) (hl : ts.length ≤ 100) (hK : K ≤ w.heap.size)
    (h : ∀ v' w', TextsO w' K v' (ts ++ [t]) → HoldsB w' w'.heap.size (.slice a1 n c) t → Below K w w' → wpList Tryd.prog ops Q rest (a.put o.dst v') w') : wpList Tryd.prog ops Q (o :: rest) a w := by
  obtain ⟨i0, hi, hz0, hz1, hz2⟩ := info_parts info22
  obtain ⟨vs, h1, h3⟩ := ht
  refine wpList_append_own2 (w := w) hgd s x 31 ho K 22 i0 (.slice none 0 0) 1 24 Tryd.underlying31 hi hz0 hz1 hz2 rfl (by decide) v ts.length vs hs h1 ⟨E, 0, none⟩ 1 1 [.slice a1 n c] hx rfl ?_ ?_ (by unfold maxLen; omega) (by omega) hK fun v' w' r1 r2 r3 => ?_
  · intro j u hu
    cases j with
    | zero =>
      simp only [List.getElem?_cons_zero] at hu
      rw [← hu]
      exact hE
    | succ j => simp at hu
  · intro u hu
    simp only [List.mem_singleton] at hu
    rw [hu]
    rfl
  have hb : Below K w w' := below_row_grown (Below.refl _ _) hK h1 r2
  have keepH : ∀ (a : Option Addr) (n c : Nat) (l : List Int), HoldsB w w.heap.size (.slice a n c) l → (∀ x, a = some x → v.ownBlock ≠ some x.block ∧ K ≤ x.block) → HoldsB w' w'.heap.size (.slice a n c) l := fun a n c l hh hn =>
    hh.kept r2.size r2.size fun x hx hlt => r2.block x.block hlt fun e => (hn x hx).1 e.symm
  have newH : ∀ (a : Option Addr) (n c : Nat) (l : List Int), 0 < l.length → HoldsB w w.heap.size (.slice a n c) l → (∀ x, a = some x → v.ownBlock ≠ some x.block ∧ K ≤ x.block) → ∀ x, a = some x → v'.ownBlock ≠ some x.block ∧ K ≤ x.block := fun a n c l h0 hh hn x hx => by
    refine ⟨fun e => ?_, (hn x hx).2⟩
    obtain ⟨a', c', e', _, _, _, h5, _⟩ := hh
    simp only [Value.slice.injEq] at e'
    have := (h5 x (by rw [← e'.1]; exact hx) h0).2.1
    rcases r3 x.block e with h | h
    · exact (hn x hx).1 h
    · omega
  have hvl : vs.length = ts.length := by have := h1.1; omega
  refine h v' w' ⟨vs ++ [.slice a1 n c], by rw [List.length_append]; exact r1, fun i hi => ?_⟩ (keepH _ _ _ _ hh hne) hb
  rw [List.length_append] at hi
  by_cases hlt : i < ts.length
  · obtain ⟨a2, n2, c2, e, h4, hpos, hn⟩ := h3 i hlt
    have hg : (ts ++ [t]).getD i [] = ts.getD i [] := by rw [List.getD_eq_getElem?_getD, List.getD_eq_getElem?_getD, List.getElem?_append_left hlt]
    rw [hg]
    exact ⟨a2, n2, c2, by rw [List.getElem?_append_left (by omega)]; exact e, keepH _ _ _ _ h4 hn, hpos, fun x hx => newH _ _ _ _ hpos h4 hn x hx⟩
  · have hi' : i = ts.length := by simp at hi; omega
    have hg : (ts ++ [t]).getD i [] = t := by rw [List.getD_eq_getElem?_getD, List.getElem?_append_right (by omega), hi', Nat.sub_self]; rfl
    rw [hg]
    exact ⟨a1, n, c, by rw [List.getElem?_append_right (by omega), hi', hvl, Nat.sub_self]; rfl, keepH _ _ _ _ hh hne, h0, fun x hx => newH _ _ _ _ h0 hh hne x hx⟩
/-- The texts that are summed on the way. -/
def riseTL (d e s r : Int) (x : List Int) (j : Nat) (p : List Int) : Nat → List (List Int)
  | 0 => []
  | l + 1 => riseTL d e s r x j p l ++ [if j / 2 ^ l % 2 = 0 then joinT d e s r (riseL d e s r x j p l) (segL p l) else joinT d e s r (segL p l) (riseL d e s r x j p l)]
def riseT (d e s r : Int) (x : List Int) (m i : Int) (p : List Int) (n : Nat) : List (List Int) := if riseOk r m i n then riseTL d e s r x i.toNat p n else []
theorem riseTL_len (d e s r : Int) (x : List Int) (j : Nat) (p : List Int) : ∀ l, (riseTL d e s r x j p l).length = l
  | 0 => rfl
  | l + 1 => by rw [riseTL, List.length_append, riseTL_len d e s r x j p l]; rfl
theorem idx65 (B o n cap j : Nat) (hj : j < n) (w : World) : (Instr.indexAt 65 (.slice (some ⟨B, o, none⟩) n cap) (.int .i64 j)).run Tryd.prog w = .ok (.pointer (some ⟨B, o + j * 16, none⟩)) w := by
  go_simp
theorem exec_idx65 {o' : Oper} {a : Act} {w : World} {x y : Operand} {B o n cap j : Nat} {q : Int} (ho : o'.op = .indexAddr 65 x y) (hx : a.eval x = .slice (some ⟨B, o, none⟩) n cap) (hy : a.eval y = .int .i64 q) (hq : q = (j : Nat)) (hj : j < n) :
    (execOp a.eval o').run Tryd.prog w = .ok (.value (.pointer (some ⟨B, o + j * 16, none⟩))) w := by
  unfold execOp
  subst hq
  simp only [ho, hx, hy, Sem.run_bind, idx65 B o n cap j hj w, Result.andThen_ok, Sem.run_pure]
theorem results_rrise {w : World} {g : Nat} {z : List Int} {q : Int} {v : Value} {tmps : Array Value} (h8 : tmps.getD 12 undef = .pointer (some ⟨g, 0, none⟩)) (h9 : tmps.getD 13 undef = v) (h10 : tmps.getD 14 undef = .int .i64 q) (hr : Row w g 32 .u8 z) (hz : z.length = 16) :
    (results Tryd.f48 tmps).run Tryd.prog w = .ok (.tuple #[dgV z, v, .int .i64 q]) w :=
  results_row_tmp2 rfl _ _ g 32 _ (0, 0) _ _ _ h8 h9 h10 hr Tryd.underlying32 rfl (cells49 hz)
set_option maxRecDepth 100000 in
set_option maxHeartbeats 8000000 in
theorem rrise_any (d e s r m i : Int) (x : List Int) (a : Option Addr) (n cap : Nat) (p : List Int) (w : World) (he : 0 ≤ e ∧ e < 4294967296) (hs : 0 ≤ s ∧ s < 4294967296) (hx : x.length = 16) (hxb : Bytes x) (hp : HoldsS w (.slice a n cap) n p) :
    Calls Tryd.prog 48 #[plV d e s, .int .i64 r, .int .i64 m, .int .i64 i, dgV x, .slice a n cap] w fun q w' => ∃ v, q = .returned (.tuple #[dgV (riseS d e s r x m i p n), v, .int .i64 (riseF r m i n)]) ∧ HoldsP w' v (riseT d e s r x m i p n) ∧ FreshS w w' v ∧ Below w.heap.size w w' := by
  have HE := Kp.mk he
  have HS := Kp.mk hs
  have HX := Kp.mk hx
  have HXB := Kp.mk hxb
  have HP := Kp.mk hp
  have HPl : Kp (p.length = n * 16 ∧ Bytes p) := ⟨by obtain ⟨_, _, _, h1, _, h2, _⟩ := hp; exact ⟨h1, h2⟩⟩
  clear he hs hx hxb hp
  obtain ⟨A, hA⟩ : ∃ A, A = w.heap.size := ⟨_, rfl⟩
  have HA := Kp.mk hA
  go_enter Tryd.func48, Tryd.ntmps48
  go_wp2_with fail
  rw [← hA]
  refine calls_world (fun W => Blk W A (.cells #[.int .i64 d, .int .u32 e, .int .u32 s] 48) ∧ Row W (A + 1) 32 .u8 x ∧ Row W (A + 1 + 1) 32 .u8 (fill 16 []) ∧ Below A w W) ⟨Blk.old (Blk.old (Blk.newAt _ hA) _) _, Blk.old (Blk.newAt _ (by simp [hA])) _, Blk.newAt _ (by rw [hA]; simp), by rw [hA]; exact more (more (more (Below.refl _ _) _) _) _⟩ ?_
  clear hA
  rintro W ⟨g1, g2, g3, g4⟩
  have G1 := Kp.mk g1
  have G2 := Kp.mk g2
  have G3 := Kp.mk g3
  have G4 := Kp.mk g4
  clear g1 g2 g3 g4
  have HZ0 : Kp ((fill 16 [] : List Int).length = 16) := ⟨rfl⟩
  have HF0 := Kp.mk (G3.out.setRow (fill 16 []))
  have HB0 := Kp.mk (Below.row G4.out (g := A + 1 + 1) (by omega) (kv .u8 (fill 16 [])).toArray)
  refine (right_any r m W).mono ?_
  rintro q w1 ⟨rfl, e1⟩
  rw [e1]
  clear e1 w1
  cases hr : rightB r m with
  | false =>
    have HU : Kp (riseS d e s r x m i p n = fill 16 [] ∧ riseF r m i n = 1 ∧ riseT d e s r x m i p n = []) := ⟨by
      have hno : showOk r m i = false := by
        cases h : showOk r m i with
        | false => rfl
        | true =>
          have := showOk_specR.1 h
          first | omega | (rw [hr] at this; exact absurd this.1 (by decide))
      simp [riseS, riseF, riseT, riseOk, hno]⟩
    clear hr
    go_wp2_with (refine wpList_store_row rfl 32 (.tmp 12) (.tmp 31) rfl (A + 1 + 1) (kv .u8 (fill 16 [])).toArray rfl rfl 32 _ G3.out (cells49 HZ0.out) (size50 HZ0.out) (kv_all _ _) ?_)
    refine bodyPost_ret (results_rrise (v := .slice none 0 0) rfl rfl rfl HF0.out HZ0.out) rfl ⟨_, by rw [HU.out.1, HU.out.2.1], ?_, FreshS.none _ _, by rw [← HA.out]; exact HB0.out⟩
    rw [HU.out.2.2]
    exact HoldsP.nil _
  | true =>
    by_cases c1 : i < 0
    · have HU : Kp (riseS d e s r x m i p n = fill 16 [] ∧ riseF r m i n = 1 ∧ riseT d e s r x m i p n = []) := ⟨by
        have hno : showOk r m i = false := by
          cases h : showOk r m i with
          | false => rfl
          | true =>
            have := showOk_specR.1 h
            first | omega | (rw [hr] at this; exact absurd this.1 (by decide))
        simp [riseS, riseF, riseT, riseOk, hno]⟩
      clear hr
      go_wp2_with (refine wpList_store_row rfl 32 (.tmp 12) (.tmp 31) rfl (A + 1 + 1) (kv .u8 (fill 16 [])).toArray rfl rfl 32 _ G3.out (cells49 HZ0.out) (size50 HZ0.out) (kv_all _ _) ?_)
      refine bodyPost_ret (results_rrise (v := .slice none 0 0) rfl rfl rfl HF0.out HZ0.out) rfl ⟨_, by rw [HU.out.1, HU.out.2.1], ?_, FreshS.none _ _, by rw [← HA.out]; exact HB0.out⟩
      rw [HU.out.2.2]
      exact HoldsP.nil _
    by_cases c2 : m ≤ i
    · have HU : Kp (riseS d e s r x m i p n = fill 16 [] ∧ riseF r m i n = 1 ∧ riseT d e s r x m i p n = []) := ⟨by
        have hno : showOk r m i = false := by
          cases h : showOk r m i with
          | false => rfl
          | true =>
            have := showOk_specR.1 h
            first | omega | (rw [hr] at this; exact absurd this.1 (by decide))
        simp [riseS, riseF, riseT, riseOk, hno]⟩
      clear hr
      go_wp2_with (refine wpList_store_row rfl 32 (.tmp 12) (.tmp 31) rfl (A + 1 + 1) (kv .u8 (fill 16 [])).toArray rfl rfl 32 _ G3.out (cells49 HZ0.out) (size50 HZ0.out) (kv_all _ _) ?_)
      refine bodyPost_ret (results_rrise (v := .slice none 0 0) rfl rfl rfl HF0.out HZ0.out) rfl ⟨_, by rw [HU.out.1, HU.out.2.1], ?_, FreshS.none _ _, by rw [← HA.out]; exact HB0.out⟩
      rw [HU.out.2.2]
      exact HoldsP.nil _
    obtain ⟨j, rfl⟩ : ∃ j : Nat, i = j := ⟨i.toNat, by omega⟩
    have hok : showOk r m (j : Int) = true := showOk_specR.2 ⟨hr, by omega, by omega⟩
    obtain ⟨k, hk⟩ : ∃ k : Nat, lev m = k := ⟨(lev m).toNat, by simp [rightB] at hr; omega⟩
    have hm := lev_inv hk
    have hk3 := hm.2
    have hj : j < 2 ^ k := by omega
    have hj8 : j < 8 := by rcases (show k = 0 ∨ k = 1 ∨ k = 2 ∨ k = 3 by omega) with rfl | rfl | rfl | rfl <;> simp at hj <;> omega
    have HLv := Kp.mk hk
    have HOK := Kp.mk hok
    clear hr hok hk hm hj
    go_wp2_with fail
    refine (rlevels_any m W).mono ?_
    rintro q w1 ⟨rfl, e1⟩
    rw [e1, HLv.out]
    clear e1 w1
    by_cases hnk : n = k
    · have HU : Kp (riseS d e s r x m j p n = riseL d e s r x j p n ∧ riseF r m j n = 0 ∧ riseT d e s r x m j p n = riseTL d e s r x j p n) := ⟨by
        have h1 : riseOk r m (j : Int) n = true := by simp [riseOk, HOK.out, HLv.out, hnk]
        have h2 : riseF r m (j : Int) n = 0 := by simp [riseF, HOK.out, HLv.out, hnk]
        simp only [riseS, riseT, h1, h2, if_true, Int.toNat_natCast, and_self]⟩
      clear HF0 HB0
      rw [← hnk]
      have hn3 : n ≤ 3 := by omega
      clear hnk hk3
      have tn : ((n : Int) != (n : Int)) = false := by simp
      obtain ⟨K0, hK⟩ : ∃ K, K = W.heap.size := ⟨_, rfl⟩
      have hKA : A + 1 + 1 < K0 := by rw [hK]; exact G3.out.lt
      have HK0 := Kp.mk hK
      clear hK
      go_wp2_with fail
      clear tn
      go_loopw [3, 15, 16] (fun i3 v c wr => ∃ l q : Nat, l ≤ n ∧ c = .int .i64 l ∧ i3 = .int .i64 q ∧ Kp (q = j / 2 ^ l) ∧ Kp (TextsO wr K0 v (riseTL d e s r x j p l)) ∧ Kp (Blk wr A (.cells #[.int .i64 d, .int .u32 e, .int .u32 s] 48)) ∧ Kp (Row wr (A + 1) 32 .u8 (riseL d e s r x j p l)) ∧ Kp (Row wr (A + 1 + 1) 32 .u8 (fill 16 [])) ∧ Kp (Below A w wr) ∧ Kp (K0 ≤ wr.heap.size)) (fun _ _ c _ => n - (intOf c).toNat)
      case atStart => exact ⟨0, j, by omega, rfl, rfl, ⟨by simp⟩, ⟨TextsO.nil _ _⟩, G1, G2, G3, G4, ⟨Nat.le_of_eq HK0.out⟩⟩
      case round =>
        obtain ⟨l, q, hl, rfl, rfl, HQ, E5, E1, E2, E3, E4, E6⟩ := hrel
        clear G1 G2 G3 G4
        have HYl := Kp.mk (riseL_len d e s r x j p HX.out l)
        have HYb := Kp.mk (riseL_bytes d e s r x j p HXB.out l)
        have HTS := Kp.mk (riseTL_len d e s r x j p l)
        obtain ⟨y, hy⟩ : ∃ y, y = riseL d e s r x j p l := ⟨_, rfl⟩
        obtain ⟨ts, hts⟩ : ∃ ts, ts = riseTL d e s r x j p l := ⟨_, rfl⟩
        rw [← hy] at E2 HYl HYb
        rw [← hts] at E5 HTS
        have HYe := Kp.mk hy
        have HTSe := Kp.mk hts
        clear hy hts
        by_cases hlt : l < n
        · obtain ⟨b, off, rfl, hbl, hrange⟩ := (HP.out.keep (by rw [← HA.out]; exact E4.out)).range hlt
          have HZl := Kp.mk (segL_len HPl.out.1 hlt)
          have HZb := Kp.mk (HPl.out.2.seg l)
          obtain ⟨z, hz⟩ : ∃ z, z = segL p l := ⟨_, rfl⟩
          rw [← hz] at HZl HZb hrange
          have HZe := Kp.mk hz
          have HR : Kp (wr.rangeAt b (off + l * 16) (kv .u8 z) ∧ b < wr.heap.size) := ⟨hrange, hbl⟩
          have hq8 : q < 8 := by rw [HQ.out]; exact Nat.lt_of_le_of_lt (Nat.div_le_self _ _) hj8
          have HQn : Kp (q / 2 = j / 2 ^ (l + 1)) := ⟨by rw [HQ.out, Nat.pow_succ, Nat.div_div_eq_div_mul]⟩
          have hq2 : (q : Int).tdiv 2 = ((q / 2 : Nat) : Int) := by rw [Int.tdiv_eq_ediv_of_nonneg (by omega)]; omega
          obtain ⟨H0, hH0⟩ : ∃ H, H = wr.heap.size := ⟨_, rfl⟩
          have HH0 : Kp (H0 ≤ wr.heap.size) := ⟨Nat.le_of_eq hH0⟩
          have HKH : Kp (K0 ≤ H0) := ⟨by rw [hH0]; exact E6.out⟩
          have HOB : Kp (∀ g, u15.ownBlock = some g → g < H0) := ⟨fun g hg => by obtain ⟨vs, k1, _⟩ := E5.out; rw [hH0]; exact (k1.lt g hg).2⟩
          clear hz hbl hrange hH0
          go_wp2_with fail
          refine wp_region_pred (fun w' => Blk w' A (.cells #[.int .i64 d, .int .u32 e, .int .u32 s] 48) ∧ Row w' (A + 1) 32 .u8 y ∧ Row w' (A + 1 + 1) 32 .u8 (fill 16 []) ∧ (w'.rangeAt b (off + l * 16) (kv .u8 z) ∧ b < w'.heap.size) ∧ TextsO w' K0 u15 ts ∧ H0 ≤ w'.heap.size ∧ Below A w w') [0, 1, 2, 3, 4, 5, 6, 7] [8]
            (fun ι w' v => match ι with
              | 0 => v = plV d e s
              | 1 => v = .int .i64 r
              | 2 => v = dgV y
              | 3 => v = .slice (some ⟨b, off, none⟩) n cap
              | 4 => v = .int .i64 l
              | 5 => v = .pointer (some ⟨b, off + l * 16, none⟩)
              | 6 => v = dgV z
              | 7 => HoldsB w' w'.heap.size v (joinT d e s r y z) ∧ ∀ g, v.ownBlock = some g → H0 ≤ g
              | _ => v = .bool true)
            [[], [], [], [], [], [(3, some 47), (4, some 48)], [(5, some 49)], [(0, some 44), (1, some 45), (2, some 46), (6, some 50)]]
            [(0, some 44), (1, some 45), (2, some 46), (3, some 47), (4, some 48), (5, some 49), (6, some 50), (7, some 51)]
            (by kernel_rfl) (by kernel_rfl) (by kernel_rfl) (by kernel_rfl) (by kernel_rfl) (by kernel_rfl) (by decide) (by decide) (fun w1 w2 h hb => ⟨h.1.keep hb, h.2.1.keep hb, h.2.2.1.keep hb, ⟨fun j' v' hv' => (hb.cell (p := ⟨b, off + l * 16 + j', none⟩) h.2.2.2.1.2).trans (h.2.2.2.1.1 j' v' hv'), Nat.lt_of_lt_of_le h.2.2.2.1.2 hb.size⟩, h.2.2.2.2.1.below hb, Nat.le_trans h.2.2.2.2.2.1 hb.size, h.2.2.2.2.2.2.trans (hb.mono (Nat.le_of_lt h.1.lt))⟩) ?_ ⟨E1.out.draw, E2.out.drew, E3.out.drew, HR.out, E5.out.drew, HH0.out, E4.out.drew⟩ ?_ ?_
          · intro ι w1 w2 v h hb
            by_cases h7 : ι = 7
            · subst h7
              exact ⟨(HoldsB.keep h.1 hb).mono hb.size, h.2⟩
            match ι, h7, h with
            | 0, _, h => exact h
            | 1, _, h => exact h
            | 2, _, h => exact h
            | 3, _, h => exact h
            | 4, _, h => exact h
            | 5, _, h => exact h
            | 6, _, h => exact h
            | 7, g, h => exact absurd rfl g
            | _ + 8, _, h => exact h
          · refine ⟨fun γ wx hS h => ?_, fun γ wx hS h => ?_, fun γ wx hS h => ?_, fun γ wx hS h => ?_, fun γ wx hS h => ?_, fun γ wx hS h => ?_, fun γ wx hS h => ?_, fun γ wx hS h => ?_, trivial⟩
            · refine ⟨_, rfl, Or.inl ⟨rfl, predRun_value (exec_load_blk 48 (.tmp 6) rfl (A) rfl 48 _ (0, 0) _ hS.1 Tryd.underlying48 rfl (cells48 d e s)) rfl⟩⟩
            · refine ⟨_, rfl, Or.inl ⟨rfl, predRun_value (v := .int .i64 r) (by simp only [putE]; first | rfl | (go_simp; done) | (go_simp; with_reducible rfl) | (go_simp; rfl)) rfl⟩⟩
            · refine ⟨_, rfl, Or.inl ⟨rfl, predRun_value (exec_load_blk 32 (.tmp 10) rfl (A + 1) rfl 32 _ (0, 0) _ hS.2.1 Tryd.underlying32 rfl (cells49 HYl.out)) rfl⟩⟩
            · refine ⟨_, rfl, Or.inl ⟨rfl, predRun_value (v := .slice (some ⟨b, off, none⟩) n cap) (by simp only [putE]; first | rfl | (go_simp; done) | (go_simp; with_reducible rfl) | (go_simp; rfl)) rfl⟩⟩
            · refine ⟨_, rfl, Or.inl ⟨rfl, predRun_value (v := .int .i64 l) (by simp only [putE]; first | rfl | (go_simp; done) | (go_simp; with_reducible rfl) | (go_simp; rfl)) rfl⟩⟩
            · obtain ⟨h3, h4⟩ := h
              have e3 : γ 3 = .slice (some ⟨b, off, none⟩) n cap := h3
              have e4 : γ 4 = .int .i64 l := h4
              refine ⟨_, rfl, Or.inl ⟨rfl, predRun_value (exec_idx65 (x := .tmp 47) (y := .tmp 48) (B := b) (o := off) (n := n) (cap := cap) (j := l) rfl (by simp only [putE, e3, e4, Act.put, List.setIfInBounds_toArray, List.set_cons_zero, List.set_cons_succ]; rfl) (by simp only [putE, e3, e4, Act.put, List.setIfInBounds_toArray, List.set_cons_zero, List.set_cons_succ]; rfl) rfl hlt) rfl⟩⟩
            · have h5 := h
              have e5 : γ 5 = .pointer (some ⟨b, off + l * 16, none⟩) := h5
              refine ⟨_, rfl, Or.inl ⟨rfl, predRun_value (exec_load_midS (b := b) (off := off + l * 16) (x := .tmp 49) (cs := kv .u8 z) rfl (by simp only [putE, e5, Act.put, List.setIfInBounds_toArray, List.set_cons_zero, List.set_cons_succ]; rfl) hS.2.2.2.1.1 Tryd.underlying32 rfl (cellsL32 HZl.out)) rfl⟩⟩
            · obtain ⟨h0, h1, h2, h6⟩ := h
              have e0 : γ 0 = plV d e s := h0
              have e1 : γ 1 = .int .i64 r := h1
              have e2 : γ 2 = dgV y := h2
              have e6 : γ 6 = dgV z := h6
              refine ⟨_, rfl, Or.inl ⟨rfl, predRun_call (f := 39) (args := #[plV d e s, .int .i64 r, dgV y, dgV z]) (by simp only [putE, e0, e1, e2, e6]; go_simp) ?_⟩⟩
              exact (rjoinT_fresh d e s r y z wx HE.out HS.out HYl.out HYb.out HZl.out HZb.out).mono fun e w2 ⟨v', h1, h2, h3, h4⟩ => ⟨_, h1, ⟨h2, fun g hg => Nat.le_trans hS.2.2.2.2.2.1 (h3 g hg)⟩, h4⟩
          · intro γ w9 hS h
            obtain ⟨p7, f7⟩ : HoldsB w9 w9.heap.size (γ 7) (joinT d e s r y z) ∧ ∀ g, (γ 7).ownBlock = some g → H0 ≤ g := h.2.2.2.2.2.2.2
            have E1' := Kp.mk hS.1
            have E2' := Kp.mk hS.2.1
            have E3' := Kp.mk hS.2.2.1
            have HR' := Kp.mk hS.2.2.2.1
            have E5' := Kp.mk hS.2.2.2.2.1
            have HH0' := Kp.mk hS.2.2.2.2.2.1
            have E4' := Kp.mk hS.2.2.2.2.2.2
            simp only [putE, Act.put, List.setIfInBounds_toArray, List.set_cons_zero, List.set_cons_succ]
            clear h hS E1 E2 E3 E4 E5 HR HH0
            obtain ⟨a1, n1, c1, e7, -⟩ := p7.slice
            rw [e7] at p7 f7 ⊢
            clear e7
            have HT := Kp.mk p7
            have HFr := Kp.mk f7
            clear p7 f7
            refine wpOps_step rfl rfl ?_
            refine wp_assign_endD (d := some 17) (v := .slice a1 n1 c1) rfl rfl rfl ?_
            simp only [Act.put, List.setIfInBounds_toArray, List.set_cons_zero, List.set_cons_succ]
            refine wpOps_done ?_
            by_cases hpar : q % 2 = 1
            · have ht : (q : Int).tmod 2 = 1 := by rw [Int.tmod_eq_emod_of_nonneg (by omega)]; omega
              have HPar : Kp (¬ j / 2 ^ l % 2 = 0) := ⟨by rw [← HQ.out]; omega⟩
              go_wp2_with fail
              clear ht
              have E1 := E1'
              have E2 := E2'
              have E3 := E3'
              have E4 := E4'
              have E5 := E5'
              have HR := HR'
              have HH0 := HH0'
              clear E1' E2' E3' E4' E5' HR' HH0' HT HFr
              refine wp_region_pred (fun w' => Blk w' A (.cells #[.int .i64 d, .int .u32 e, .int .u32 s] 48) ∧ Row w' (A + 1) 32 .u8 y ∧ Row w' (A + 1 + 1) 32 .u8 (fill 16 []) ∧ (w'.rangeAt b (off + l * 16) (kv .u8 z) ∧ b < w'.heap.size) ∧ TextsO w' K0 u15 ts ∧ H0 ≤ w'.heap.size ∧ Below A w w') [0, 1, 2, 3, 4, 5, 6, 7] [8]
                (fun ι w' v => match ι with
                  | 0 => v = plV d e s
                  | 1 => v = .int .i64 r
                  | 2 => v = .slice (some ⟨b, off, none⟩) n cap
                  | 3 => v = .int .i64 l
                  | 4 => v = .pointer (some ⟨b, off + l * 16, none⟩)
                  | 5 => v = dgV z
                  | 6 => v = dgV y
                  | 7 => HoldsB w' w'.heap.size v (joinT d e s r z y) ∧ ∀ g, v.ownBlock = some g → H0 ≤ g
                  | _ => v = .bool true)
                [[], [], [], [], [(2, some 57), (3, some 58)], [(4, some 59)], [], [(0, some 55), (1, some 56), (5, some 60), (6, some 61)]]
                [(0, some 55), (1, some 56), (2, some 57), (3, some 58), (4, some 59), (5, some 60), (6, some 61), (7, some 62)]
                (by kernel_rfl) (by kernel_rfl) (by kernel_rfl) (by kernel_rfl) (by kernel_rfl) (by kernel_rfl) (by decide) (by decide) (fun w1 w2 h hb => ⟨h.1.keep hb, h.2.1.keep hb, h.2.2.1.keep hb, ⟨fun j' v' hv' => (hb.cell (p := ⟨b, off + l * 16 + j', none⟩) h.2.2.2.1.2).trans (h.2.2.2.1.1 j' v' hv'), Nat.lt_of_lt_of_le h.2.2.2.1.2 hb.size⟩, h.2.2.2.2.1.below hb, Nat.le_trans h.2.2.2.2.2.1 hb.size, h.2.2.2.2.2.2.trans (hb.mono (Nat.le_of_lt h.1.lt))⟩) ?_ ⟨E1.out.draw, E2.out.drew, E3.out.drew, HR.out, E5.out.drew, HH0.out, E4.out.drew⟩ ?_ ?_
              · intro ι w1 w2 v h hb
                by_cases h7 : ι = 7
                · subst h7
                  exact ⟨(HoldsB.keep h.1 hb).mono hb.size, h.2⟩
                match ι, h7, h with
                | 0, _, h => exact h
                | 1, _, h => exact h
                | 2, _, h => exact h
                | 3, _, h => exact h
                | 4, _, h => exact h
                | 5, _, h => exact h
                | 6, _, h => exact h
                | 7, g, h => exact absurd rfl g
                | _ + 8, _, h => exact h
              · refine ⟨fun γ wx hS h => ?_, fun γ wx hS h => ?_, fun γ wx hS h => ?_, fun γ wx hS h => ?_, fun γ wx hS h => ?_, fun γ wx hS h => ?_, fun γ wx hS h => ?_, fun γ wx hS h => ?_, trivial⟩
                · refine ⟨_, rfl, Or.inl ⟨rfl, predRun_value (exec_load_blk 48 (.tmp 6) rfl (A) rfl 48 _ (0, 0) _ hS.1 Tryd.underlying48 rfl (cells48 d e s)) rfl⟩⟩
                · refine ⟨_, rfl, Or.inl ⟨rfl, predRun_value (v := .int .i64 r) (by simp only [putE]; first | rfl | (go_simp; done) | (go_simp; with_reducible rfl) | (go_simp; rfl)) rfl⟩⟩
                · refine ⟨_, rfl, Or.inl ⟨rfl, predRun_value (v := .slice (some ⟨b, off, none⟩) n cap) (by simp only [putE]; first | rfl | (go_simp; done) | (go_simp; with_reducible rfl) | (go_simp; rfl)) rfl⟩⟩
                · refine ⟨_, rfl, Or.inl ⟨rfl, predRun_value (v := .int .i64 l) (by simp only [putE]; first | rfl | (go_simp; done) | (go_simp; with_reducible rfl) | (go_simp; rfl)) rfl⟩⟩
                · obtain ⟨h2, h3⟩ := h
                  have e2 : γ 2 = .slice (some ⟨b, off, none⟩) n cap := h2
                  have e3 : γ 3 = .int .i64 l := h3
                  refine ⟨_, rfl, Or.inl ⟨rfl, predRun_value (exec_idx65 (x := .tmp 57) (y := .tmp 58) (B := b) (o := off) (n := n) (cap := cap) (j := l) rfl (by simp only [putE, e2, e3, Act.put, List.setIfInBounds_toArray, List.set_cons_zero, List.set_cons_succ]; rfl) (by simp only [putE, e2, e3, Act.put, List.setIfInBounds_toArray, List.set_cons_zero, List.set_cons_succ]; rfl) rfl hlt) rfl⟩⟩
                · have h4 := h
                  have e4 : γ 4 = .pointer (some ⟨b, off + l * 16, none⟩) := h4
                  refine ⟨_, rfl, Or.inl ⟨rfl, predRun_value (exec_load_midS (b := b) (off := off + l * 16) (x := .tmp 59) (cs := kv .u8 z) rfl (by simp only [putE, e4, Act.put, List.setIfInBounds_toArray, List.set_cons_zero, List.set_cons_succ]; rfl) hS.2.2.2.1.1 Tryd.underlying32 rfl (cellsL32 HZl.out)) rfl⟩⟩
                · refine ⟨_, rfl, Or.inl ⟨rfl, predRun_value (exec_load_blk 32 (.tmp 10) rfl (A + 1) rfl 32 _ (0, 0) _ hS.2.1 Tryd.underlying32 rfl (cells49 HYl.out)) rfl⟩⟩
                · obtain ⟨h0, h1, h5, h6⟩ := h
                  have e0 : γ 0 = plV d e s := h0
                  have e1 : γ 1 = .int .i64 r := h1
                  have e5 : γ 5 = dgV z := h5
                  have e6 : γ 6 = dgV y := h6
                  refine ⟨_, rfl, Or.inl ⟨rfl, predRun_call (f := 39) (args := #[plV d e s, .int .i64 r, dgV z, dgV y]) (by simp only [putE, e0, e1, e5, e6]; go_simp) ?_⟩⟩
                  exact (rjoinT_fresh d e s r z y wx HE.out HS.out HZl.out HZb.out HYl.out HYb.out).mono fun e w2 ⟨v', h1, h2, h3, h4⟩ => ⟨_, h1, ⟨h2, fun g hg => Nat.le_trans hS.2.2.2.2.2.1 (h3 g hg)⟩, h4⟩
              · intro γ w9 hS h
                obtain ⟨p7, f7⟩ : HoldsB w9 w9.heap.size (γ 7) (joinT d e s r z y) ∧ ∀ g, (γ 7).ownBlock = some g → H0 ≤ g := h.2.2.2.2.2.2.2
                have E1' := Kp.mk hS.1
                have E2' := Kp.mk hS.2.1
                have E3' := Kp.mk hS.2.2.1
                have HR' := Kp.mk hS.2.2.2.1
                have E5' := Kp.mk hS.2.2.2.2.1
                have HH0' := Kp.mk hS.2.2.2.2.2.1
                have E4' := Kp.mk hS.2.2.2.2.2.2
                simp only [putE, Act.put, List.setIfInBounds_toArray, List.set_cons_zero, List.set_cons_succ]
                clear h hS E1 E2 E3 E4 E5 HR HH0
                obtain ⟨a1, n1, c1, e7, -⟩ := p7.slice
                rw [e7] at p7 f7 ⊢
                clear e7
                have HT := Kp.mk p7
                have HFr := Kp.mk f7
                clear p7 f7
                refine wpOps_step rfl rfl ?_
                refine wp_assign_endD (d := some 17) (v := .slice a1 n1 c1) rfl rfl rfl ?_
                simp only [Act.put, List.setIfInBounds_toArray, List.set_cons_zero, List.set_cons_succ]
                refine wpOps_done ?_
                have hg15 : ∀ g, u15.ownBlock = some g → g < H0 := fun g hg => HOB.out g hg
                have HNE : Kp (∀ x, a1 = some x → u15.ownBlock ≠ some x.block ∧ K0 ≤ x.block) := ⟨fun x hx => by
                  have h1 := HFr.out x.block (by rw [hx]; rfl)
                  exact ⟨fun e => by have := hg15 _ e; omega, by have := HKH.out; omega⟩⟩
                have C1 : Kp (TextsO (w9.alloc (.cells #[.slice a1 n1 c1] 22)) K0 u15 ts) := ⟨E5'.out.below (more (Below.refl _ _) _)⟩
                have C2 : Kp (HoldsB (w9.alloc (.cells #[.slice a1 n1 c1] 22)) (w9.alloc (.cells #[.slice a1 n1 c1] 22)).heap.size (.slice a1 n1 c1) (joinT d e s r z y)) := ⟨(HoldsB.keep HT.out (more (Below.refl _ _) _)).mono (by simp)⟩
                have C3 : Kp ((w9.alloc (.cells #[.slice a1 n1 c1] 22)).cell? ⟨w9.heap.size, 0, none⟩ = some (.slice a1 n1 c1)) := ⟨(Blk.new w9 (.cells #[.slice a1 n1 c1] 22)).cell 0⟩
                have C4 : Kp (K0 ≤ (w9.alloc (.cells #[.slice a1 n1 c1] 22)).heap.size) := ⟨by have := HH0'.out; have := HKH.out; simp; omega⟩
                clear hg15
                go_wp2_with (at_builtin; refine wpList_append_texto rfl _ _ rfl K0 u15 ts rfl C1.out w9.heap.size a1 n1 c1 (joinT d e s r z y) rfl C3.out C2.out HNE.out (by simp [joinT]) (by have := HTS.out; omega) C4.out ?_)
                intro v5 w5 k1 k2 k3
                have D5 := Kp.mk k1
                have DT := Kp.mk k2
                have D1 : Kp (Blk w5 A (.cells #[.int .i64 d, .int .u32 e, .int .u32 s] 48)) := ⟨(k3.block A (by omega)).trans (Blk.old E1'.out _)⟩
                have D2 : Kp (Row w5 (A + 1) 32 .u8 y) := ⟨(k3.block (A + 1) (by omega)).trans (Row.alloc E2'.out _)⟩
                have D3 : Kp (Row w5 (A + 1 + 1) 32 .u8 (fill 16 [])) := ⟨(k3.block (A + 1 + 1) (by omega)).trans (Row.alloc E3'.out _)⟩
                have D4 : Kp (Below A w w5) := ⟨(E4'.out.alloc (Nat.le_of_lt E1'.out.lt) _).trans (k3.mono (by omega))⟩
                have D8 : Kp (K0 ≤ w5.heap.size) := ⟨by have := k3.size; have := C4.out; omega⟩
                clear k1 k2 k3 C1 C2 C3 C4 E1' E2' E3' E4' E5' HH0' HR' HT
                go_wp2_with fail
                refine (of_any _ _ 74 _ w5 DT.out (by simp [placeL_len, HYl.out, HZl.out])).mono ?_
                rintro q1 w6 ⟨rfl, hb⟩
                have F1 := Kp.mk (D1.out.keep hb)
                have F2 := Kp.mk (D2.out.keep hb)
                have F3 := Kp.mk (D3.out.keep hb)
                have F4 : Kp (Below A w w6) := ⟨D4.out.trans (hb.mono (Nat.le_of_lt D1.out.lt))⟩
                have F5 := Kp.mk (D5.out.below hb)
                have F8 : Kp (K0 ≤ w6.heap.size) := ⟨by have := hb.size; have := D8.out; omega⟩
                clear hb D1 D2 D3 D4 D5 DT
                obtain ⟨u, hu⟩ : ∃ u, u = shortL (joinT d e s r z y) := ⟨_, rfl⟩
                rw [show dgV (shortL (74 :: _)) = dgV (shortL (joinT d e s r z y)) from rfl, ← hu]
                have HUl : Kp (u.length = 16) := ⟨by rw [hu]; exact shortL_len _⟩
                have HUe : Kp (u = riseL d e s r x j p (l + 1)) := ⟨by rw [hu, riseL, if_neg HPar.out, ← HYe.out, ← HZe.out]⟩
                have HTe : Kp (ts ++ [joinT d e s r z y] = riseTL d e s r x j p (l + 1)) := ⟨by rw [riseTL, if_neg HPar.out, ← HYe.out, ← HZe.out, ← HTSe.out]⟩
                clear hu
                have F6 : Kp (TextsO (w6.setRow (A + 1) (kv .u8 u).toArray) K0 v5 (ts ++ [joinT d e s r z y])) := ⟨F5.out.set (by omega) _⟩
                have F7 : Kp (Row (w6.setRow (A + 1) (kv .u8 u).toArray) (A + 1) 32 .u8 u) := ⟨F2.out.setRow u⟩
                go_wp2_with (refine wpList_store_row rfl 32 (.tmp 10) (.tmp 68) rfl (A + 1) (kv .u8 u).toArray rfl rfl 32 _ F2.out (cells49 HUl.out) (by rw [kv_size, kv_size, HYl.out, HUl.out]) (kv_all _ _) ?_)
                exact ⟨⟨l + 1, q / 2, by omega, by go_num, by first | rfl | (congr 1; omega), HQn, ⟨by rw [← HTe.out]; exact F6.out⟩, ⟨(setRow_other _ (A + 1) A _ (by omega)).trans F1.out⟩, ⟨by rw [← HUe.out]; exact F7.out⟩, ⟨Row.otherRow F3.out (by omega) _⟩, ⟨Below.row F4.out (by omega) _⟩, ⟨by simpa [World.setRow] using F8.out⟩⟩, by simp [intOf]; omega⟩
            · have ht : (q : Int).tmod 2 = 0 := by rw [Int.tmod_eq_emod_of_nonneg (by omega)]; omega
              have HPar : Kp (j / 2 ^ l % 2 = 0) := ⟨by rw [← HQ.out]; omega⟩
              have hg15 : ∀ g, u15.ownBlock = some g → g < H0 := fun g hg => HOB.out g hg
              have HNE : Kp (∀ x, a1 = some x → u15.ownBlock ≠ some x.block ∧ K0 ≤ x.block) := ⟨fun x hx => by
                have h1 := HFr.out x.block (by rw [hx]; rfl)
                exact ⟨fun e => by have := hg15 _ e; omega, by have := HKH.out; omega⟩⟩
              have C1 : Kp (TextsO (w9.alloc (.cells #[.slice a1 n1 c1] 22)) K0 u15 ts) := ⟨E5'.out.below (more (Below.refl _ _) _)⟩
              have C2 : Kp (HoldsB (w9.alloc (.cells #[.slice a1 n1 c1] 22)) (w9.alloc (.cells #[.slice a1 n1 c1] 22)).heap.size (.slice a1 n1 c1) (joinT d e s r y z)) := ⟨(HoldsB.keep HT.out (more (Below.refl _ _) _)).mono (by simp)⟩
              have C3 : Kp ((w9.alloc (.cells #[.slice a1 n1 c1] 22)).cell? ⟨w9.heap.size, 0, none⟩ = some (.slice a1 n1 c1)) := ⟨(Blk.new w9 (.cells #[.slice a1 n1 c1] 22)).cell 0⟩
              have C4 : Kp (K0 ≤ (w9.alloc (.cells #[.slice a1 n1 c1] 22)).heap.size) := ⟨by have := HH0'.out; have := HKH.out; simp; omega⟩
              clear hg15
              go_wp2_with (at_builtin; refine wpList_append_texto rfl _ _ rfl K0 u15 ts rfl C1.out w9.heap.size a1 n1 c1 (joinT d e s r y z) rfl C3.out C2.out HNE.out (by simp [joinT]) (by have := HTS.out; omega) C4.out ?_)
              intro v5 w5 k1 k2 k3
              have D5 := Kp.mk k1
              have DT := Kp.mk k2
              have D1 : Kp (Blk w5 A (.cells #[.int .i64 d, .int .u32 e, .int .u32 s] 48)) := ⟨(k3.block A (by omega)).trans (Blk.old E1'.out _)⟩
              have D2 : Kp (Row w5 (A + 1) 32 .u8 y) := ⟨(k3.block (A + 1) (by omega)).trans (Row.alloc E2'.out _)⟩
              have D3 : Kp (Row w5 (A + 1 + 1) 32 .u8 (fill 16 [])) := ⟨(k3.block (A + 1 + 1) (by omega)).trans (Row.alloc E3'.out _)⟩
              have D4 : Kp (Below A w w5) := ⟨(E4'.out.alloc (Nat.le_of_lt E1'.out.lt) _).trans (k3.mono (by omega))⟩
              have D8 : Kp (K0 ≤ w5.heap.size) := ⟨by have := k3.size; have := C4.out; omega⟩
              clear k1 k2 k3 C1 C2 C3 C4 E1' E2' E3' E4' E5' HH0' HR' HT
              go_wp2_with fail
              refine (of_any _ _ 74 _ w5 DT.out (by simp [placeL_len, HYl.out, HZl.out])).mono ?_
              rintro q1 w6 ⟨rfl, hb⟩
              have F1 := Kp.mk (D1.out.keep hb)
              have F2 := Kp.mk (D2.out.keep hb)
              have F3 := Kp.mk (D3.out.keep hb)
              have F4 : Kp (Below A w w6) := ⟨D4.out.trans (hb.mono (Nat.le_of_lt D1.out.lt))⟩
              have F5 := Kp.mk (D5.out.below hb)
              have F8 : Kp (K0 ≤ w6.heap.size) := ⟨by have := hb.size; have := D8.out; omega⟩
              clear hb D1 D2 D3 D4 D5 DT
              obtain ⟨u, hu⟩ : ∃ u, u = shortL (joinT d e s r y z) := ⟨_, rfl⟩
              rw [show dgV (shortL (74 :: _)) = dgV (shortL (joinT d e s r y z)) from rfl, ← hu]
              have HUl : Kp (u.length = 16) := ⟨by rw [hu]; exact shortL_len _⟩
              have HUe : Kp (u = riseL d e s r x j p (l + 1)) := ⟨by rw [hu, riseL, if_pos HPar.out, ← HYe.out, ← HZe.out]⟩
              have HTe : Kp (ts ++ [joinT d e s r y z] = riseTL d e s r x j p (l + 1)) := ⟨by rw [riseTL, if_pos HPar.out, ← HYe.out, ← HZe.out, ← HTSe.out]⟩
              clear hu
              have F6 : Kp (TextsO (w6.setRow (A + 1) (kv .u8 u).toArray) K0 v5 (ts ++ [joinT d e s r y z])) := ⟨F5.out.set (by omega) _⟩
              have F7 : Kp (Row (w6.setRow (A + 1) (kv .u8 u).toArray) (A + 1) 32 .u8 u) := ⟨F2.out.setRow u⟩
              go_wp2_with (refine wpList_store_row rfl 32 (.tmp 10) (.tmp 68) rfl (A + 1) (kv .u8 u).toArray rfl rfl 32 _ F2.out (cells49 HUl.out) (by rw [kv_size, kv_size, HYl.out, HUl.out]) (kv_all _ _) ?_)
              exact ⟨⟨l + 1, q / 2, by omega, by go_num, by first | rfl | (congr 1; omega), HQn, ⟨by rw [← HTe.out]; exact F6.out⟩, ⟨(setRow_other _ (A + 1) A _ (by omega)).trans F1.out⟩, ⟨by rw [← HUe.out]; exact F7.out⟩, ⟨Row.otherRow F3.out (by omega) _⟩, ⟨Below.row F4.out (by omega) _⟩, ⟨by simpa [World.setRow] using F8.out⟩⟩, by simp [intOf]; omega⟩
        · have hl' : l = n := by omega
          subst hl'
          rw [← HYe.out, ← HTSe.out] at HU
          have HF := Kp.mk (E3.out.setRow y)
          have HBf := Kp.mk (Below.row E4.out (g := A + 1 + 1) (by omega) (kv .u8 y).toArray)
          have HTO := Kp.mk (E5.out.set (g := A + 1 + 1) (by omega) (kv .u8 y).toArray)
          go_wp2_with first
            | (refine wpList_load_row rfl 32 (.tmp 10) rfl (A + 1) rfl 32 _ (0, 0) _ E2.out Tryd.underlying32 rfl (cells49 HYl.out) ?_)
            | (refine wpList_store_row rfl 32 (.tmp 12) (.tmp 71) rfl (A + 1 + 1) (kv .u8 y).toArray rfl rfl 32 _ E3.out (cells49 HYl.out) (size50 HYl.out) (kv_all _ _) ?_)
          refine bodyPost_ret (results_rrise (v := u15) rfl rfl rfl HF.out HYl.out) rfl ⟨_, by rw [HU.out.1, HU.out.2.1], by rw [HU.out.2.2]; exact HTO.out.holds, ?_, by rw [← HA.out]; exact HBf.out⟩
          intro a' n' c' ev
          obtain ⟨vs, k1, _⟩ := HTO.out
          have h := k1.lt a'.block (by rw [ev]; rfl)
          exact ⟨by rw [← HA.out]; omega, h.2⟩
    · have HU : Kp (riseS d e s r x m j p n = fill 16 [] ∧ riseF r m j n = 22 ∧ riseT d e s r x m j p n = []) := ⟨by
        have h4 : ¬ ((n : Int) = lev m) := by rw [HLv.out]; omega
        have h1 : riseOk r m (j : Int) n = false := by simp [riseOk, h4]
        simp [riseS, riseT, riseF, h1, HOK.out, h4]⟩
      have tn : ((n : Int) != (k : Int)) = true := by simp; omega
      go_wp2_with (refine wpList_store_row rfl 32 (.tmp 12) (.tmp 37) rfl (A + 1 + 1) (kv .u8 (fill 16 [])).toArray rfl rfl 32 _ G3.out (cells49 HZ0.out) (size50 HZ0.out) (kv_all _ _) ?_)
      refine bodyPost_ret (results_rrise (v := .slice none 0 0) rfl rfl rfl HF0.out HZ0.out) rfl ⟨_, by rw [HU.out.1, HU.out.2.1], ?_, FreshS.none _ _, by rw [← HA.out]; exact HB0.out⟩
      rw [HU.out.2.2]
      exact HoldsP.nil _
end Go.Proofs.YtahmioiefmheeaaDoor
