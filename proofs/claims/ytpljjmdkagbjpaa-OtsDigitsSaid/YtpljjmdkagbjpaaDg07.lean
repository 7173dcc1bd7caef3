/-
  Rows of texts that the call made; the document's Link with a text of its own.
  The document's Run.
  append of texts that a call made, to texts of the call's own.
  Rows of texts, and stores into a row of zeros, or into the middle of an elder row.
  The document's digits: plain arithmetic.
  The document's Digits.
  Index of a row by value.
  ots.Recover.
-/
import Derived.Test.YtpljjmdkagbjpaaDg06
import Derived.Laws.AppendOwnNone
namespace Go.Proofs.Ytpljjmdkagbjpaa
open Go.RowKit

theorem setRow_ne {w : World} {g k : Nat} (cs : Array Value) (h : k ≠ g) : (w.setRow g cs).heap[k]? = w.heap[k]? := by
  unfold World.setRow
  rw [Array.getElem?_modify]
  rw [if_neg (by omega)]
theorem HoldsB.kept {w w' : World} {M M' : Nat} {a : Option Addr} {n c : Nat} {l : List Int} (h : HoldsB w M (.slice a n c) l) (hM : M ≤ M') (hs : w.heap.size ≤ w'.heap.size) (hb : ∀ x, a = some x → x.block < w.heap.size → w'.heap[x.block]? = w.heap[x.block]?) : HoldsB w' M' (.slice a n c) l := by
  obtain ⟨a', c', e, h2, h3, h4, h5, h6, h7⟩ := h
  obtain ⟨rfl, -, -⟩ : a = a' ∧ n = l.length ∧ c = c' := by simpa using e
  refine ⟨a, c', e, h2, h3, h4, fun x hx h0 => ?_, fun x i hx hi => ?_, h7⟩
  · obtain ⟨k1, k2, k3⟩ := h5 x hx h0
    exact ⟨k1, by omega, by omega⟩
  · obtain ⟨k1, k2, k3⟩ := h5 x hx (by omega)
    exact (World.cell?_of_block (w := w) (a := ⟨x.block, x.off + i, Option.none⟩) (hb x hx k3)).trans (h6 x i hx hi)
/-- Texts that the call made, in a row of its own that none of them lies in. -/
def TextsO (w : World) (K : Nat) (v : Value) (ts : List (List Int)) : Prop :=
  ∃ vs : List Value, w.ownsRow K 30 1 v ts.length vs ∧ ∀ i, i < ts.length → ∃ a n c, vs[i]? = some (.slice a n c) ∧ HoldsB w w.heap.size (.slice a n c) (ts.getD i []) ∧ 0 < (ts.getD i []).length ∧ ∀ x, a = some x → v.ownBlock ≠ some x.block ∧ K ≤ x.block
theorem TextsO.nil (w : World) (K : Nat) : TextsO w K (.slice none 0 0) [] := ⟨[], World.ownsRow_nil _ _ _ _, fun i hi => by simp at hi⟩
theorem TextsO.frame {w w' : World} {K : Nat} {v : Value} {ts : List (List Int)} {row : Option Nat} (h : TextsO w K v ts) (hg : w.grownBy w' row) (hr : ∀ g, row = some g → g < K) : TextsO w' K v ts := by
  obtain ⟨vs, h1, h3⟩ := h
  refine ⟨vs, h1.kept hg ?_, fun i hi => ?_⟩
  · cases hv : v.ownBlock with
    | none => exact .inl rfl
    | some k =>
      refine .inr fun e => ?_
      have := (h1.lt k hv).1
      have := hr k e.symm
      omega
  · obtain ⟨a, n, c, e, hh, h0, hn⟩ := h3 i hi
    refine ⟨a, n, c, e, hh.kept hg.size hg.size fun x hx hlt => hg.block x.block hlt fun e => ?_, h0, hn⟩
    have := hr _ e.symm
    have := (hn x hx).2
    omega
theorem TextsO.below {w w' : World} {K : Nat} {v : Value} {ts : List (List Int)} (h : TextsO w K v ts) (hb : Below w.heap.size w w') : TextsO w' K v ts :=
  h.frame (row := none) ⟨hb.os, hb.tape, hb.output, hb.size, fun k hk _ => hb.block k hk⟩ fun g e => by cases e
theorem TextsO.set {w : World} {K g : Nat} {v : Value} {ts : List (List Int)} (h : TextsO w K v ts) (hg : g < K) (cs : Array Value) : TextsO (w.setRow g cs) K v ts :=
  h.frame (row := some g) ⟨rfl, rfl, rfl, by simp [World.setRow], fun k hk hne => setRow_ne cs fun e => hne (by rw [e])⟩ fun g' e => by simp at e; omega
theorem TextsO.drew {w : World} {K : Nat} {v : Value} {ts : List (List Int)} (h : TextsO w K v ts) : TextsO w.drew K v ts := h.frame (row := none) ⟨rfl, rfl, rfl, Nat.le_refl _, fun _ _ _ => rfl⟩ fun g e => by cases e
theorem TextsO.holds {w : World} {K : Nat} {v : Value} {ts : List (List Int)} (h : TextsO w K v ts) : HoldsP w v ts := by
  obtain ⟨vs, h1, h3⟩ := h
  rcases h1.2 with ⟨rfl, hn⟩ | ⟨g, cap, cur, rfl, hb, hg, hle, hcap, hsz, ht⟩
  · have : ts = [] := List.length_eq_zero_iff.1 hn
    subst this
    exact ⟨none, 0, rfl, by unfold maxLen; simp, fun i hi => by simp at hi⟩
  · refine ⟨_, cap, rfl, by omega, fun i hi => ?_⟩
    obtain ⟨a, n, c, e, hh, _⟩ := h3 i hi
    refine ⟨g, 0, a, n, c, rfl, (Array.getElem?_eq_some_iff.1 hg).1, ?_, hh⟩
    rw [cell_of_row w g (0 + i) cur 30 (0, 0) hg, Nat.zero_add, ← Array.getElem?_toList, ← e, ← ht, List.getElem?_take, if_pos (by omega)]
/-- append of a text to such texts. -/
theorem wpList_append_texto {w : World} {ops : Array Oper} {rest : List Oper} {o : Oper} {a : Act} {Q : Exit → Act → World → Prop} (hgd : o.guard = none) (s x : Operand)
    (ho : o.op = .call { callee := .builtin .append, args := #[s, x], argTypes := #[26, 26] })
    (K : Nat) (v : Value) (ts : List (List Int)) (hs : a.eval s = v) (ht : TextsO w K v ts) (E : Nat) (a1 : Option Addr) (n c : Nat) (t : List Int) (hx : a.eval x = .slice (some ⟨E, 0, none⟩) 1 1) (hE : w.cell? ⟨E, 0, none⟩ = some (.slice a1 n c))
    (hh : HoldsB w w.heap.size (.slice a1 n c) t) (hne : ∀ x, a1 = some x → v.ownBlock ≠ some x.block ∧ K ≤ x.block) (h0 : 0 < t.length) (hl : ts.length ≤ 1000) (hK : K ≤ w.heap.size)
    (h : ∀ v' w', TextsO w' K v' (ts ++ [t]) → HoldsB w' w'.heap.size (.slice a1 n c) t → Below K w w' → wpList Try.prog ops Q rest (a.put o.dst v') w') : wpList Try.prog ops Q (o :: rest) a w := by
  obtain ⟨i0, hi, hz0, hz1, hz2⟩ := info_parts info22
  obtain ⟨vs, h1, h3⟩ := ht
  refine wpList_append_own2 (w := w) hgd s x 26 ho K 30 i0 (.slice none 0 0) 1 24 Try.underlying26 hi hz0 hz1 hz2 rfl (by decide) v ts.length vs hs h1 ⟨E, 0, none⟩ 1 1 [.slice a1 n c] hx rfl ?_ ?_ (by unfold maxLen; omega) (by omega) hK fun v' w' r1 r2 r3 => ?_
  · intro j u hu
    cases j with
    | zero =>
      simp only [List.getElem?_cons_zero] at hu
      rw [← hu]
      exact hE
    | succ j => simp at hu
  · intro u hu
    simp only [List.mem_singleton] at hu
    rw [hu]
    rfl
  have hb : Below K w w' := below_row_grown (Below.refl _ _) hK h1 r2
  have keepH : ∀ (a : Option Addr) (n c : Nat) (l : List Int), HoldsB w w.heap.size (.slice a n c) l → (∀ x, a = some x → v.ownBlock ≠ some x.block ∧ K ≤ x.block) → HoldsB w' w'.heap.size (.slice a n c) l := fun a n c l hh hn =>
    hh.kept r2.size r2.size fun x hx hlt => r2.block x.block hlt fun e => (hn x hx).1 e.symm
  have newH : ∀ (a : Option Addr) (n c : Nat) (l : List Int), 0 < l.length → HoldsB w w.heap.size (.slice a n c) l → (∀ x, a = some x → v.ownBlock ≠ some x.block ∧ K ≤ x.block) → ∀ x, a = some x → v'.ownBlock ≠ some x.block ∧ K ≤ x.block := fun a n c l h0 hh hn x hx => by
    refine ⟨fun e => ?_, (hn x hx).2⟩
    obtain ⟨a', c', e', _, _, _, h5, _⟩ := hh
    simp only [Value.slice.injEq] at e'
    have := (h5 x (by rw [← e'.1]; exact hx) h0).2.1
    rcases r3 x.block e with h | h
    · exact (hn x hx).1 h
    · omega
  have hvl : vs.length = ts.length := by have := h1.1; omega
  refine h v' w' ⟨vs ++ [.slice a1 n c], by rw [List.length_append]; exact r1, fun i hi => ?_⟩ (keepH _ _ _ _ hh hne) hb
  rw [List.length_append] at hi
  by_cases hlt : i < ts.length
  · obtain ⟨a2, n2, c2, e, h4, hpos, hn⟩ := h3 i hlt
    have hg : (ts ++ [t]).getD i [] = ts.getD i [] := by rw [List.getD_eq_getElem?_getD, List.getD_eq_getElem?_getD, List.getElem?_append_left hlt]
    rw [hg]
    exact ⟨a2, n2, c2, by rw [List.getElem?_append_left (by omega)]; exact e, keepH _ _ _ _ h4 hn, hpos, fun x hx => newH _ _ _ _ hpos h4 hn x hx⟩
  · have hi' : i = ts.length := by simp at hi; omega
    have hg : (ts ++ [t]).getD i [] = t := by rw [List.getD_eq_getElem?_getD, List.getElem?_append_right (by omega), hi', Nat.sub_self]; rfl
    rw [hg]
    exact ⟨a1, n, c, by rw [List.getElem?_append_right (by omega), hi', hvl, Nat.sub_self]; rfl, keepH _ _ _ _ hh hne, h0, fun x hx => newH _ _ _ _ h0 hh hne x hx⟩
set_option maxRecDepth 100000 in
set_option maxHeartbeats 2000000 in
theorem rlink_fresh (d x c s : Int) (z : List Int) (w : World) (hx : 0 ≤ x ∧ x < 4294967296) (hz : z.length = 16) (hzb : Bytes z) :
    Calls Try.prog 15 #[nameV d x, .int .i64 c, .int .i64 s, dgV z] w fun q w' => ∃ v', q = .returned v' ∧ HoldsB w' w'.heap.size v' (linkT d x c s z) ∧ (∀ g, v'.ownBlock = some g → w.heap.size ≤ g) ∧ Below w.heap.size w w' := by
  have HX := Kp.mk hx
  have HZ := Kp.mk hz
  have HZB := Kp.mk hzb
  clear hx hz hzb
  go_enter Try.func15, Try.ntmps15
  go_wp2_with fail
  obtain ⟨A, hA⟩ : ∃ A, A = w.heap.size := ⟨_, rfl⟩
  have HA := Kp.mk hA
  rw [← hA]
  refine wp_world (fun W => Blk W A (.cells #[.int .i64 d, .int .u32 x] 25) ∧ Row W (A + 1) 22 .u8 z ∧ Below A w W) ⟨?_, ?_, ?_⟩ ?_
  · exact Blk.old (Blk.newAt _ hA) _
  · exact Blk.newAt _ (by simp [hA])
  · rw [hA]; exact more (more (Below.refl _ _) _) _
  clear hA
  rintro W ⟨h1, h2, h4⟩
  have G1 := Kp.mk h1
  have G2 := Kp.mk h2
  have G4 := Kp.mk h4
  clear h1 h2 h4
  refine wp_region_pred (fun w' => Blk w' A (.cells #[.int .i64 d, .int .u32 x] 25) ∧ Row w' (A + 1) 22 .u8 z ∧ Below A w w') [0, 1, 2, 3, 4, 5, 6, 7, 8, 9] [10]
    (fun ι w' v => match ι with
      | 0 => v = nameV d x
      | 2 => v = .int .i64 c
      | 3 => v = .int .u8 (c % 256)
      | 4 => v = .int .i64 s
      | 5 => v = .int .u8 (s % 256)
      | 7 => v = .slice (some ⟨A + 1, 0, none⟩) 16 16
      | 1 => HoldsB w' w'.heap.size v (headL d x)
      | 6 => HoldsB w' w'.heap.size v [c % 256, s % 256]
      | 8 => HoldsP w' v [headL d x, [c % 256, s % 256], z]
      | 9 => HoldsB w' w'.heap.size v (linkT d x c s z) ∧ ∀ g, v.ownBlock = some g → A ≤ g
      | _ => v = .bool true)
    [[], [(0, some 9)], [], [(2, some 11)], [], [(4, some 13)], [(3, some 12), (5, some 14)], [], [(1, some 10), (6, some 15), (7, some 16)], [(1, some 10), (8, some 17)]]
    [(0, some 9), (1, some 10), (2, some 11), (3, some 12), (4, some 13), (5, some 14), (6, some 15), (7, some 16), (8, some 17), (9, some 18)]
    (by kernel_rfl) (by kernel_rfl) (by kernel_rfl) (by kernel_rfl) (by kernel_rfl) (by kernel_rfl) (by decide) (by decide) (fun w1 w2 h hb => ⟨h.1.keep hb, h.2.1.keep hb, h.2.2.trans (hb.mono (Nat.le_of_lt h.1.lt))⟩) ?_ ⟨G1.out.draw, G2.out.drew, G4.out.drew⟩ ?_ ?_
  · intro ι w1 w2 v h hb
    by_cases h1 : ι = 1
    · subst h1
      exact (HoldsB.keep h hb).mono hb.size
    by_cases h6 : ι = 6
    · subst h6
      exact (HoldsB.keep h hb).mono hb.size
    by_cases h8 : ι = 8
    · subst h8
      exact HoldsP.keep h hb
    by_cases h9 : ι = 9
    · subst h9
      have h' : HoldsB w1 w1.heap.size v (linkT d x c s z) ∧ ∀ g, v.ownBlock = some g → A ≤ g := h
      exact ⟨(HoldsB.keep h'.1 hb).mono hb.size, h'.2⟩
    match ι, h1, h6, h8, h9, h with
    | 0, _, _, _, _, h => exact h
    | 1, g, _, _, _, h => exact absurd rfl g
    | 2, _, _, _, _, h => exact h
    | 3, _, _, _, _, h => exact h
    | 4, _, _, _, _, h => exact h
    | 5, _, _, _, _, h => exact h
    | 6, _, g, _, _, h => exact absurd rfl g
    | 7, _, _, _, _, h => exact h
    | 8, _, _, g, _, h => exact absurd rfl g
    | 9, _, _, _, g, h => exact absurd rfl g
    | _ + 10, _, _, _, _, h => exact h
  · refine ⟨fun γ wx hS h => ?_, fun γ wx hS h => ?_, fun γ wx hS h => ?_, fun γ wx hS h => ?_, fun γ wx hS h => ?_, fun γ wx hS h => ?_, fun γ wx hS h => ?_, fun γ wx hS h => ?_, fun γ wx hS h => ?_, fun γ wx hS h => ?_, trivial⟩
    · refine ⟨_, rfl, Or.inl ⟨rfl, predRun_value (exec_load_blk 25 (.tmp 4) rfl (A) rfl 25 _ (0, 0) _ hS.1 Try.underlying25 rfl (cellsN24 d x)) rfl⟩⟩
    · have h0 := h
      have e0 : γ 0 = nameV d x := h0
      refine ⟨_, rfl, Or.inl ⟨rfl, predRun_call (f := 17) (args := #[nameV d x]) (by simp only [putE, e0]; go_simp) ?_⟩⟩
      exact (head_any d x wx HX.out).mono fun e w2 ⟨v', h1, h2, h3⟩ => ⟨_, h1, h2, h3⟩
    · refine ⟨_, rfl, Or.inl ⟨rfl, predRun_value (v := .int .i64 c) (by simp only [putE]; first | rfl | (go_simp; done) | (go_simp; with_reducible rfl) | (go_simp; rfl)) rfl⟩⟩
    · have h2 := h
      have e2 : γ 2 = .int .i64 c := h2
      refine ⟨_, rfl, Or.inl ⟨rfl, predRun_value (v := .int .u8 (c % 256)) (by simp only [putE, e2]; go_simp; exact IntKind.wrap_u8' _) rfl⟩⟩
    · refine ⟨_, rfl, Or.inl ⟨rfl, predRun_value (v := .int .i64 s) (by simp only [putE]; first | rfl | (go_simp; done) | (go_simp; with_reducible rfl) | (go_simp; rfl)) rfl⟩⟩
    · have h4 := h
      have e4 : γ 4 = .int .i64 s := h4
      refine ⟨_, rfl, Or.inl ⟨rfl, predRun_value (v := .int .u8 (s % 256)) (by simp only [putE, e4]; go_simp; exact IntKind.wrap_u8' _) rfl⟩⟩
    · obtain ⟨h3, h5⟩ := h
      have e3 : γ 3 = .int .u8 (c % 256) := h3
      have e5 : γ 5 = .int .u8 (s % 256) := h5
      refine ⟨_, rfl, Or.inl ⟨rfl, predRun_new (w' := wx.alloc (.cells #[.int .u8 (c % 256), .int .u8 (s % 256)] 5)) (v := .slice (some ⟨wx.heap.size, 0, none⟩) 2 2) (by simp only [putE, e3, e5]; go_simp) (more (Below.refl _ _) _) (two_holds wx _ _ (by omega) (by omega))⟩⟩
    · refine ⟨_, rfl, Or.inl ⟨rfl, predRun_value (v := .slice (some ⟨A + 1, 0, none⟩) 16 16) (by simp only [putE]; have hs := slice25_all16; go_simp) rfl⟩⟩
    · obtain ⟨h1, h6, h7⟩ := h
      have p1 : HoldsB wx wx.heap.size (γ 1) (headL d x) := h1
      have p6 : HoldsB wx wx.heap.size (γ 6) [c % 256, s % 256] := h6
      have e7 : γ 7 = .slice (some ⟨A + 1, 0, none⟩) 16 16 := h7
      obtain ⟨a, n, c1, ea, _⟩ := p1.slice
      rw [ea] at p1
      obtain ⟨a6, n6, c6, e6, _⟩ := p6.slice
      rw [e6] at p6
      refine ⟨_, rfl, Or.inl ⟨rfl, predRun_new (w' := wx.alloc (.cells #[.slice a n c1, .slice a6 n6 c6, .slice (some ⟨A + 1, 0, none⟩) 16 16] 30)) (v := .slice (some ⟨wx.heap.size, 0, none⟩) 3 3) (by simp only [putE, ea, e6, e7]; go_simp) (more (Below.refl _ _) _) (holdsP_three p1 p6 (hold16 hS.2.1 HZ.out HZB.out))⟩⟩
    · obtain ⟨h1, h8⟩ := h
      have p1 : HoldsB wx wx.heap.size (γ 1) (headL d x) := h1
      have p8 : HoldsP wx (γ 8) [headL d x, [c % 256, s % 256], z] := h8
      obtain ⟨a, n, c1, e8, _⟩ := p8.slice
      rw [e8] at p8
      refine ⟨_, rfl, Or.inl ⟨rfl, predRun_call (f := 16) (args := #[.int .u8 87, .slice a n c1]) (by simp only [putE, e8]; go_simp) ?_⟩⟩
      refine (rtext_any 87 a n c1 _ wx (by omega) p8 (by simp [headL_len, HZ.out])).mono ?_
      rintro q w2 ⟨v', rfl, hh, hf, hb⟩
      exact ⟨v', rfl, ⟨(linkT_flat d x c s z) ▸ hh, fun g hg => by have := hf g hg; have := hS.1.lt; omega⟩, hb⟩
  · intro γ w9 hS h
    have h9 : HoldsB w9 w9.heap.size (γ 9) (linkT d x c s z) ∧ ∀ g, (γ 9).ownBlock = some g → A ≤ g := h.2.2.2.2.2.2.2.2.2
    have HB := Kp.mk hS.2.2
    have H9 := Kp.mk h9
    simp only [putE, Act.put, List.setIfInBounds_toArray, List.set_cons_zero, List.set_cons_succ]
    clear h hS h9 G1 G2 G4
    generalize γ 9 = v9 at *
    refine wpOps_step rfl rfl ?_
    refine wp_assign_end rfl rfl ?_
    refine wpOps_done ?_
    go_wp2_with fail
    go_ret
    exact ⟨_, rfl, H9.out.1, by rw [← HA.out]; exact H9.out.2, by rw [← HA.out]; exact HB.out⟩
end Go.Proofs.Ytpljjmdkagbjpaa

namespace Go.Proofs.Ytpljjmdkagbjpaa
open Go.RowKit

theorem results_row_tmp {P : Program} {fn : Func} {p q : Tmp} {ty : TypeId} (h : fn.results = #[.cell p ty, .tmp q]) (tmps : Array Value) (w : World) (g : Nat) (t : TypeId) (cs : Array Value) (fr : Nat × Nat) (d : TypeDesc) (u : Value)
    (hp : tmps.getD p undef = .pointer (some ⟨g, 0, none⟩)) (hq : tmps.getD q undef = u) (hg : w.heap[g]? = some (.cells cs t fr))
    (hu : P.underlying ty = some d) (hd : (match d with | .struct _ | .array _ _ => true | _ => false) = true) (hi : (P.info? ty).map (·.size) = some cs.size) :
    (results fn tmps).run P w = .ok (.tuple #[.agg cs, u]) w := by
  have hp' : tmps[p]?.getD undef = .pointer (some ⟨g, 0, none⟩) := by simpa using hp
  have hq' : tmps[q]?.getD undef = u := by simpa using hq
  simp [results, h, hp', hq', asAddr, run_loadVar_row w g t ty cs fr d hg hu hd hi]
theorem TextsO.lt {w : World} {K : Nat} {v : Value} {ts : List (List Int)} (h : TextsO w K v ts) : ∀ g, v.ownBlock = some g → g < w.heap.size := by
  obtain ⟨vs, h1, _⟩ := h
  exact fun g hg => (h1.lt g hg).2
theorem TextsO.base {w : World} {K K' : Nat} {v : Value} {ts : List (List Int)} (h : TextsO w K v ts) (hk : K' ≤ K) : TextsO w K' v ts := by
  obtain ⟨vs, h1, h3⟩ := h
  refine ⟨vs, ownsRow_base h1 hk, fun i hi => ?_⟩
  obtain ⟨a, n, c, e, hh, h0, hn⟩ := h3 i hi
  exact ⟨a, n, c, e, hh, h0, fun x hx => ⟨(hn x hx).1, Nat.le_trans hk (hn x hx).2⟩⟩
/-- The texts that are summed on the way. -/
def runT (d x c f : Int) (z : List Int) : Nat → List (List Int)
  | 0 => []
  | k + 1 => runT d x c f z k ++ [linkT d x c (f + k) (runS d x c f z k)]
theorem runT_len (d x c f : Int) (z : List Int) : ∀ k, (runT d x c f z k).length = k
  | 0 => rfl
  | k + 1 => by rw [runT, List.length_append, runT_len d x c f z k]; rfl
set_option maxRecDepth 100000 in
set_option maxHeartbeats 4000000 in
theorem rrun_any (d x c : Int) (f t : Nat) (z : List Int) (w : World) (hx : 0 ≤ x ∧ x < 4294967296) (hf : f ≤ 3) (ht : t ≤ 3) (hz : z.length = 16) (hzb : Bytes z) :
    Calls Try.prog 12 #[nameV d x, .int .i64 c, .int .i64 (f : Int), .int .i64 (t : Int), dgV z] w fun q w' => ∃ v, q = .returned (.tuple #[dgV (runS d x c f z (t - f)), v]) ∧ TextsO w' w.heap.size v (runT d x c f z (t - f)) ∧ Below w.heap.size w w' := by
  have HX := Kp.mk hx
  have HZ0 := Kp.mk hz
  have HZB := Kp.mk hzb
  have hC := fun (w : World) => box_row (t := 22) (cs := kv .u8 z) (cellsT25 hz) w
  clear hx hz hzb
  go_enter Try.func12, Try.ntmps12
  go_wp2_with (refine wpList_box_eq rfl 22 (.tmp 4) rfl _ rfl _ _ (hC _) ?_)
  obtain ⟨A, hA⟩ : ∃ A, A = w.heap.size := ⟨_, rfl⟩
  have HA := Kp.mk hA
  rw [← hA]
  refine wp_world (fun W => Blk W A (.cells #[.int .i64 d, .int .u32 x] 25) ∧ Row W (A + 1) 22 .u8 z ∧ Row W (A + 2) 22 .u8 (fill 16 []) ∧ Below A w W) ⟨?_, ?_, ?_, ?_⟩ ?_
  · exact Blk.old (Blk.old (Blk.newAt _ hA) _) _
  · exact Blk.old (Blk.newAt _ (by simp [hA])) _
  · exact Blk.newAt _ (by simp [hA])
  · rw [hA]; exact more (more (more (Below.refl _ _) _) _) _
  rw [show A + 1 + 1 = A + 2 from rfl]
  clear hA hC
  rintro W ⟨h1, h2, h3, h4⟩
  have G1 := Kp.mk h1
  have G2 := Kp.mk h2
  have G3 := Kp.mk h3
  have G4 := Kp.mk h4
  clear h1 h2 h3 h4
  go_loopw [12, 13] (fun v5 c7 wr => ∃ k : Nat, k ≤ t - f ∧ c7 = .int .i64 ((f : Int) + k) ∧ Kp (TextsO wr (A + 3) v5 (runT d x c f z k)) ∧ Kp (Blk wr A (.cells #[.int .i64 d, .int .u32 x] 25)) ∧ Kp (Row wr (A + 1) 22 .u8 (runS d x c f z k)) ∧ Kp (Row wr (A + 2) 22 .u8 (fill 16 [])) ∧ Kp (Below A w wr)) (fun _ c _ => t - (intOf c).toNat)
  case atStart => exact ⟨0, by omega, by simp, ⟨TextsO.nil _ _⟩, G1, G2, G3, G4⟩
  case round =>
    obtain ⟨k, hk, rfl, F0, F1, F2, F3, F4⟩ := hrel
    clear G1 G2 G3 G4
    have HYl : Kp ((runS d x c f z k).length = 16) := ⟨runS_len d x c f HZ0.out k⟩
    have HYb : Kp (Bytes (runS d x c f z k)) := ⟨runS_bytes d x c f HZB.out k⟩
    by_cases hlt : f + k < t
    · have hlt' : (f : Int) + (k : Int) < (t : Int) := by omega
      have HYn := Kp.mk (show runS d x c f z (k + 1) = shortL (linkT d x c (f + k) (runS d x c f z k)) from rfl)
      have HTn := Kp.mk (show runT d x c f z (k + 1) = runT d x c f z k ++ [linkT d x c (f + k) (runS d x c f z k)] from rfl)
      have HTl := Kp.mk (runT_len d x c f z k)
      generalize runT d x c f z k = ts at *
      generalize runS d x c f z k = y at *
      have HC := Kp.mk (cellsT25 HYl.out)
      go_wp2_with (first
        | (refine wpList_load_row rfl 25 (.tmp 5) rfl A rfl 25 _ (0, 0) _ F1.out Try.underlying25 rfl (cellsN24 d x) ?_)
        | (refine wpList_load_row rfl 22 (.tmp 9) rfl (A + 1) rfl 22 (kv .u8 y).toArray (0, 0) _ F2.out Try.underlying22 rfl HC.out ?_))
      refine (rlink_fresh d x c ((f : Int) + k) y wr HX.out HYl.out HYb.out).mono ?_
      rintro q w1 ⟨v1, rfl, hh, hfr, hb⟩
      obtain ⟨a1, n1, c1, rfl, -⟩ := hh.slice
      have HLT : Kp ((linkT d x c ((f : Int) + k) y).length = 24) := ⟨by simp [linkT, headL_len, HYl.out]⟩
      obtain ⟨tl, htl⟩ : ∃ tl, linkT d x c ((f : Int) + k) y = 87 :: tl := ⟨_, rfl⟩
      rw [htl] at hh HYn HTn HLT
      clear htl
      have HH := Kp.mk hh
      have hlo := F0.out.lt
      have HNE : Kp (∀ x, a1 = some x → u12.ownBlock ≠ some x.block ∧ A + 3 ≤ x.block) := ⟨fun x hx => by
        have h1 := hfr x.block (by rw [hx]; rfl)
        have h2 := F3.out.lt
        exact ⟨fun e => by have := hlo _ e; omega, by omega⟩⟩
      have C1 : Kp (TextsO (w1.alloc (.cells #[.slice a1 n1 c1] 30)) (A + 3) u12 ts) := ⟨(F0.out.below hb).below (more (Below.refl _ _) _)⟩
      have C2 : Kp (HoldsB (w1.alloc (.cells #[.slice a1 n1 c1] 30)) (w1.alloc (.cells #[.slice a1 n1 c1] 30)).heap.size (.slice a1 n1 c1) (87 :: tl)) := ⟨(HoldsB.keep hh (more (Below.refl _ _) _)).mono (by simp)⟩
      have C3 : Kp ((w1.alloc (.cells #[.slice a1 n1 c1] 30)).cell? ⟨w1.heap.size, 0, none⟩ = some (.slice a1 n1 c1)) := ⟨(Blk.new w1 (.cells #[.slice a1 n1 c1] 30)).cell 0⟩
      have C4 : Kp (A + 3 ≤ (w1.alloc (.cells #[.slice a1 n1 c1] 30)).heap.size) := ⟨by have := F3.out.lt; have := hb.size; simp; omega⟩
      have E1 : Kp (Blk (w1.alloc (.cells #[.slice a1 n1 c1] 30)) A (.cells #[.int .i64 d, .int .u32 x] 25)) := ⟨Blk.old (F1.out.keep hb) _⟩
      have E2 : Kp (Row (w1.alloc (.cells #[.slice a1 n1 c1] 30)) (A + 1) 22 .u8 y) := ⟨Row.alloc (F2.out.keep hb) _⟩
      have E3 : Kp (Row (w1.alloc (.cells #[.slice a1 n1 c1] 30)) (A + 2) 22 .u8 (fill 16 [])) := ⟨Row.alloc (F3.out.keep hb) _⟩
      have E4 : Kp (Below A w (w1.alloc (.cells #[.slice a1 n1 c1] 30))) := ⟨(F4.out.trans (hb.mono (by have := F3.out.lt; omega))).alloc (by have := (F1.out.keep hb).lt; omega) _⟩
      clear hh hfr hb hlo F0 F1 F2 F3 F4 HH
      go_wp2_with (at_builtin; refine wpList_append_texto rfl _ _ rfl (A + 3) u12 ts rfl C1.out w1.heap.size a1 n1 c1 (87 :: tl) rfl C3.out C2.out HNE.out (by simp) (by have := HTl.out; omega) C4.out ?_)
      intro v5 w5 k1 k2 k3
      have D0 : Kp (TextsO w5 (A + 3) v5 (runT d x c f z (k + 1))) := ⟨by rw [HTn.out]; exact k1⟩
      have DT := Kp.mk k2
      have D1 : Kp (Blk w5 A (.cells #[.int .i64 d, .int .u32 x] 25)) := ⟨E1.out.upto k3 (by omega)⟩
      have D2 : Kp (Row w5 (A + 1) 22 .u8 y) := ⟨E2.out.upto k3 (by omega)⟩
      have D3 : Kp (Row w5 (A + 2) 22 .u8 (fill 16 [])) := ⟨E3.out.upto k3 (by omega)⟩
      have D4 : Kp (Below A w w5) := ⟨E4.out.trans (k3.mono (by omega))⟩
      clear k1 k2 k3 C1 C2 C3 C4 E1 E2 E3 E4 HNE
      go_wp2_with fail
      refine (of_any _ _ 87 _ w5 DT.out (by have := HLT.out; simp at this; omega)).mono ?_
      rintro q1 w6 ⟨rfl, hb⟩
      rw [← HYn.out]
      have HNl : Kp ((runS d x c f z (k + 1)).length = 16) := ⟨runS_len d x c f HZ0.out (k + 1)⟩
      have X0 : Kp (TextsO w6 (A + 3) v5 (runT d x c f z (k + 1))) := ⟨D0.out.below hb⟩
      have X1 := Kp.mk (D1.out.keep hb)
      have X2 := Kp.mk (D2.out.keep hb)
      have X3 := Kp.mk (D3.out.keep hb)
      have X4 : Kp (Below A w w6) := ⟨D4.out.trans (hb.mono (by have := D3.out.lt; omega))⟩
      clear hb D0 D1 D2 D3 D4 DT HYn HTn
      generalize hu : runS d x c f z (k + 1) = u at HNl ⊢
      generalize htu : runT d x c f z (k + 1) = tu at X0
      have HCu := Kp.mk (cellsT25 HNl.out)
      have HZu : Kp ((kv .u8 y).toArray.size = (kv .u8 u).toArray.size) := ⟨by rw [kv_size, kv_size, HYl.out, HNl.out]⟩
      have Y0 : Kp (TextsO (w6.setRow (A + 1) (kv .u8 u).toArray) (A + 3) v5 tu) := ⟨X0.out.set (by omega) _⟩
      have Y1 : Kp (Blk (w6.setRow (A + 1) (kv .u8 u).toArray) A (.cells #[.int .i64 d, .int .u32 x] 25)) := ⟨(setRow_other w6 (A + 1) A _ (by omega)).trans X1.out⟩
      have Y2 : Kp (Row (w6.setRow (A + 1) (kv .u8 u).toArray) (A + 1) 22 .u8 u) := ⟨X2.out.setRow u⟩
      have Y3 : Kp (Row (w6.setRow (A + 1) (kv .u8 u).toArray) (A + 2) 22 .u8 (fill 16 [])) := ⟨X3.out.otherRow (by omega) _⟩
      have Y4 : Kp (Below A w (w6.setRow (A + 1) (kv .u8 u).toArray)) := ⟨Below.row X4.out (by omega) _⟩
      go_wp2_with (refine wpList_store_row rfl 22 (.tmp 9) (.tmp 31) rfl (A + 1) (kv .u8 u).toArray rfl rfl 22 _ X2.out HCu.out HZu.out (kv_all _ _) ?_)
      exact ⟨⟨k + 1, by omega, by go_num, by rw [htu]; exact Y0, Y1, by rw [hu]; exact Y2, Y3, Y4⟩, by simp [intOf]; omega⟩
    · obtain rfl : k = t - f := by omega
      have hge : ¬ ((f : Int) + ((t - f : Nat) : Int) < (t : Int)) := by omega
      generalize hts : runT d x c f z (t - f) = ts at *
      generalize hy : runS d x c f z (t - f) = y at *
      have HC := Kp.mk (cellsT25 HYl.out)
      have HZ := Kp.mk (size50 HYl.out)
      have Y0 : Kp (TextsO (wr.setRow (A + 2) (kv .u8 y).toArray) (A + 3) u12 ts) := ⟨F0.out.set (by omega) _⟩
      have Y3 : Kp (Row (wr.setRow (A + 2) (kv .u8 y).toArray) (A + 2) 22 .u8 y) := ⟨F3.out.setRow y⟩
      have Y4 : Kp (Below A w (wr.setRow (A + 2) (kv .u8 y).toArray)) := ⟨Below.row F4.out (by omega) _⟩
      go_wp2_with (first
        | (refine wpList_load_row rfl 22 (.tmp 9) rfl (A + 1) rfl 22 (kv .u8 y).toArray (0, 0) _ F2.out Try.underlying22 rfl HC.out ?_)
        | (refine wpList_store_row rfl 22 (.tmp 10) (.tmp 32) rfl (A + 2) (kv .u8 y).toArray rfl rfl 22 _ F3.out HC.out HZ.out (kv_all _ _) ?_))
      refine bodyPost_ret (v := .tuple #[dgV y, u12]) ?_ rfl ⟨u12, rfl, by rw [← HA.out]; exact Y0.out.base (by omega : A ≤ A + 3), by rw [← HA.out]; exact Y4.out⟩
      exact results_row_tmp rfl _ _ (A + 2) 22 _ (0, 0) _ _ rfl rfl Y3.out Try.underlying22 rfl HC.out
end Go.Proofs.Ytpljjmdkagbjpaa

namespace Go.Proofs.Ytpljjmdkagbjpaa
open Go.RowKit

theorem wpList_append_textsO {w : World} {ops : Array Oper} {rest : List Oper} {o : Oper} {a : Act} {Q : Exit → Act → World → Prop} (hgd : o.guard = none) (s x : Operand)
    (ho : o.op = .call { callee := .builtin .append, args := #[s, x], argTypes := #[26, 26] })
    (K : Nat) (v : Value) (ts : List (List Int)) (hs : a.eval s = v) (ht : TextsO w K v ts) (B : Nat) (u : Value) (us : List (List Int)) (hx : a.eval x = u) (hu : TextsO w B u us)
    (hKB : K ≤ B) (hv : ∀ g, v.ownBlock = some g → g < B) (hl : ts.length + us.length ≤ 1000) (hK : K ≤ w.heap.size)
    (h : ∀ v' w', TextsO w' K v' (ts ++ us) → Below K w w' → wpList Try.prog ops Q rest (a.put o.dst v') w') : wpList Try.prog ops Q (o :: rest) a w := by
  obtain ⟨i0, hi, hz0, hz1, hz2⟩ := info_parts info22
  have ht0 := ht
  obtain ⟨vs, h1, h3⟩ := ht
  obtain ⟨ws, k1, k3⟩ := hu
  have hwl : ws.length = us.length := by have := k1.1; omega
  have hvl : vs.length = ts.length := by have := h1.1; omega
  have kc : ∀ g, u.ownBlock = some g → ∀ j y, ws[j]? = some y → w.cell? ((⟨g, 0, none⟩ : Addr).add j) = some y := fun g hg => k1.cells hg
  rcases k1.2 with ⟨rfl, hn⟩ | ⟨g, cap, cur, rfl, hb, hg, hle, hcap, hsz, htk⟩
  · have e : us = [] := List.length_eq_zero_iff.1 hn
    subst e
    exact wpList_append_own_none hgd s x 26 ho K 30 i0 1 Try.underlying26 hi v ts.length vs hs h1 hx (h v w (by rw [List.append_nil]; exact ht0) ⟨rfl, rfl, rfl, Nat.le_refl _, fun _ _ => rfl⟩)
  · refine wpList_append_own2 (w := w) hgd s x 26 ho K 30 i0 (.slice none 0 0) 1 24 Try.underlying26 hi hz0 hz1 hz2 rfl (by decide) v ts.length vs hs h1 ⟨g, 0, none⟩ us.length cap ws hx (by omega) (kc g rfl) ?_ (by unfold maxLen; omega) (by omega) hK fun v' w' r1 r2 r3 => ?_
    · intro y hy
      obtain ⟨i, hi', rfl⟩ := List.mem_iff_getElem.1 hy
      obtain ⟨a, n, c, e, _⟩ := k3 i (by omega)
      rw [List.getElem?_eq_getElem hi'] at e
      simp only [Option.some.injEq] at e
      rw [e]
      rfl
    have hb2 : Below K w w' := below_row_grown (Below.refl _ _) hK h1 r2
    have keepH : ∀ (a : Option Addr) (n c : Nat) (l : List Int), HoldsB w w.heap.size (.slice a n c) l → (∀ x, a = some x → v.ownBlock ≠ some x.block ∧ K ≤ x.block) → HoldsB w' w'.heap.size (.slice a n c) l := fun a n c l hh hn =>
      hh.kept r2.size r2.size fun x hx hlt => r2.block x.block hlt fun e => (hn x hx).1 e.symm
    have newH : ∀ (a : Option Addr) (n c : Nat) (l : List Int), 0 < l.length → HoldsB w w.heap.size (.slice a n c) l → (∀ x, a = some x → v.ownBlock ≠ some x.block ∧ K ≤ x.block) → ∀ x, a = some x → v'.ownBlock ≠ some x.block ∧ K ≤ x.block := fun a n c l h0 hh hn x hx => by
      refine ⟨fun e => ?_, (hn x hx).2⟩
      obtain ⟨a', c', e', _, _, _, h5, _⟩ := hh
      simp only [Value.slice.injEq] at e'
      have := (h5 x (by rw [← e'.1]; exact hx) h0).2.1
      rcases r3 x.block e with h | h
      · exact (hn x hx).1 h
      · omega
    refine h v' w' ⟨vs ++ ws, by rw [List.length_append]; exact r1, fun i hi => ?_⟩ hb2
    rw [List.length_append] at hi
    by_cases hlt : i < ts.length
    · obtain ⟨a2, n2, c2, e, h4, hpos, hn⟩ := h3 i hlt
      have hg : (ts ++ us).getD i [] = ts.getD i [] := by rw [List.getD_eq_getElem?_getD, List.getD_eq_getElem?_getD, List.getElem?_append_left hlt]
      rw [hg]
      exact ⟨a2, n2, c2, by rw [List.getElem?_append_left (by omega)]; exact e, keepH _ _ _ _ h4 hn, hpos, fun x hx => newH _ _ _ _ hpos h4 hn x hx⟩
    · obtain ⟨a2, n2, c2, e, h4, hpos, hn⟩ := k3 (i - ts.length) (by omega)
      have hn' : ∀ x, a2 = some x → v.ownBlock ≠ some x.block ∧ K ≤ x.block := fun x hx => ⟨fun e => by have := hv _ e; have := (hn x hx).2; omega, by have := (hn x hx).2; omega⟩
      have hg : (ts ++ us).getD i [] = us.getD (i - ts.length) [] := by rw [List.getD_eq_getElem?_getD, List.getD_eq_getElem?_getD, List.getElem?_append_right (by omega)]
      rw [hg]
      exact ⟨a2, n2, c2, by rw [List.getElem?_append_right (by omega), hvl]; exact e, keepH _ _ _ _ h4 hn', hpos, fun x hx => newH _ _ _ _ hpos h4 hn' x hx⟩
end Go.Proofs.Ytpljjmdkagbjpaa

namespace Go.Proofs.Ytpljjmdkagbjpaa
open Go.RowKit

theorem setCells_heap {b k : Nat} (hne : k ≠ b) : ∀ (vs : List Value) (o : Nat) (w : World), (w.setCells b o vs).heap[k]? = w.heap[k]?
  | [], _, _ => rfl
  | v :: r, o, w => (setCells_heap hne r (o + 1) _).trans (Below.heap_setCell _ _ _ _ hne)
theorem setCells_size {b : Nat} : ∀ (vs : List Value) (o : Nat) (w : World), (w.setCells b o vs).heap.size = w.heap.size
  | [], _, _ => rfl
  | v :: r, o, w => (setCells_size r (o + 1) _).trans (by simp [World.setCell])
theorem setCells_rest {b : Nat} : ∀ (vs : List Value) (o : Nat) (w : World), (w.setCells b o vs).os = w.os ∧ (w.setCells b o vs).tape = w.tape ∧ (w.setCells b o vs).output = w.output
  | [], _, _ => ⟨rfl, rfl, rfl⟩
  | v :: r, o, w => (setCells_rest r (o + 1) (w.setCell ⟨b, o, none⟩ v))
theorem TextsO.mid {w : World} {K g : Nat} {v : Value} {ts : List (List Int)} (h : TextsO w K v ts) (hg : g < K) (o : Nat) (vs : List Value) : TextsO (w.setCells g o vs) K v ts :=
  h.frame (row := some g) ⟨(setCells_rest vs o w).1, (setCells_rest vs o w).2.1, (setCells_rest vs o w).2.2, by rw [setCells_size]; exact Nat.le_refl _, fun k hk hne => setCells_heap (fun e => hne (by rw [e])) vs o w⟩ fun g' e => by simp at e; omega
/-- All texts begin with a byte that isn't 0. -/
def Heads (ts : List (List Int)) : Prop := ∀ t ∈ ts, ∃ k l, t = k :: l ∧ k ≠ 0
theorem Heads.nil : Heads [] := fun t h => by cases h
theorem Heads.append {a b : List (List Int)} (h : Heads a) (k : Heads b) : Heads (a ++ b) := fun t ht => by
  rcases List.mem_append.1 ht with h1 | h1
  · exact h t h1
  · exact k t h1
theorem Heads.one {k : Int} {l : List Int} (h : k ≠ 0) : Heads [k :: l] := fun t ht => by
  simp only [List.mem_singleton] at ht
  exact ⟨k, l, ht, h⟩
theorem Heads.at {ts : List (List Int)} (h : Heads ts) {i : Nat} (hi : i < ts.length) : 0 < (ts.getD i []).length ∧ (ts.getD i []).getD 0 0 ≠ 0 := by
  have hm : ts.getD i [] ∈ ts := by rw [List.getD_eq_getElem?_getD, List.getElem?_eq_getElem hi]; exact List.getElem_mem hi
  obtain ⟨k, l, e, hk⟩ := h _ hm
  rw [e]
  exact ⟨by simp, by simpa using hk⟩
theorem runT_heads (d x c f : Int) (z : List Int) : ∀ k, Heads (runT d x c f z k)
  | 0 => Heads.nil
  | k + 1 => (runT_heads d x c f z k).append (Heads.one (by decide))
theorem holds_off_zeros {w : World} {M g : Nat} {a : Option Addr} {n c : Nat} {l : List Int} (h : HoldsB w M (.slice a n c) l) (hz : Row w g 22 .u8 (fill 16 [])) (h0 : 0 < l.length) (h1 : l.getD 0 0 ≠ 0) : ∀ x, a = some x → x.block ≠ g := by
  intro x hx e
  obtain ⟨a', cap, e1, e2, e3, e4, e5, e6, e7⟩ := h
  simp only [Value.slice.injEq] at e1
  obtain ⟨rfl, -, -⟩ := e1
  have hc := e6 x 0 hx h0
  by_cases hlt : x.off + 0 < 16
  · have hr := Row.cell hz (i := x.off + 0) (by simpa [fill] using hlt)
    rw [e, hr] at hc
    have : (fill 16 []).getD (x.off + 0) 0 = 0 := by
      unfold fill
      rw [List.getD_eq_getElem?_getD, List.nil_append, List.getElem?_replicate]
      split <;> rfl
    rw [this] at hc
    simp only [Option.some.injEq, Value.int.injEq, true_and] at hc
    exact h1 hc.symm
  · rw [e] at hc
    have hr := Blk.cell hz (x.off + 0)
    rw [hr] at hc
    rw [Array.getElem?_eq_none (by simpa [fill] using hlt)] at hc
    cases hc
theorem TextsO.zero {w : World} {K g : Nat} {v : Value} {ts : List (List Int)} (h : TextsO w K v ts) (hz : Row w g 22 .u8 (fill 16 [])) (hh : Heads ts) (cs : Array Value) : TextsO (w.setRow g cs) K v ts := by
  have hgr : w.grownBy (w.setRow g cs) (some g) := ⟨rfl, rfl, rfl, by simp [World.setRow], fun k hk hne => setRow_ne cs fun e => hne (by rw [e])⟩
  obtain ⟨vs, h1, h3⟩ := h
  refine ⟨vs, h1.kept hgr ?_, fun i hi => ?_⟩
  · rcases h1.2 with ⟨rfl, hn⟩ | ⟨k, cap, cur, rfl, hb, hg, _⟩
    · exact .inl rfl
    · refine .inr fun e => ?_
      have e' : k = g := by simpa [Value.ownBlock] using e
      subst e'
      have hz' : w.heap[k]? = some (.cells (kv .u8 (fill 16 [])).toArray 22) := hz
      rw [hg] at hz'
      simp at hz'
  · obtain ⟨a, n, c, e, hH, h0, hn⟩ := h3 i hi
    refine ⟨a, n, c, e, hH.kept (by simp [World.setRow]) (by simp [World.setRow]) fun x hx _ => setRow_ne cs (holds_off_zeros hH hz (hh.at hi).1 (hh.at hi).2 x hx), h0, hn⟩
/-- The texts behind k chains. -/
def recTL (d x : Int) (m S : List Int) : Nat → List (List Int)
  | 0 => []
  | k + 1 => recTL d x m S k ++ runT d x k (dgt m k) (linkAt (recL d x m S k) k) (3 - dgt m k)
theorem recTL_len (d x : Int) (m S : List Int) : ∀ k, (recTL d x m S k).length ≤ 3 * k
  | 0 => Nat.le_refl _
  | k + 1 => by
    have := recTL_len d x m S k
    rw [recTL, List.length_append, runT_len]
    omega
theorem recTL_heads (d x : Int) (m S : List Int) : ∀ k, Heads (recTL d x m S k)
  | 0 => Heads.nil
  | k + 1 => (recTL_heads d x m S k).append (runT_heads _ _ _ _ _ _)
end Go.Proofs.Ytpljjmdkagbjpaa

namespace Go.Proofs.Ytpljjmdkagbjpaa

/-- What is left behind i bytes, and j digits of the next one, from the last one on. -/
def restI (m : List Int) (i : Nat) : Nat → Int
  | 0 => leftU m (4 * i)
  | j + 1 => restI m i j + (3 - dig m (4 * i + (3 - j)))
theorem restI_full (m : List Int) (i : Nat) : restI m i 4 = leftU m (4 * (i + 1)) := by
  show leftU m (4 * i) + (3 - dig m (4 * i + 3)) + (3 - dig m (4 * i + 2)) + (3 - dig m (4 * i + 1)) + (3 - dig m (4 * i)) = leftU m (4 * i) + (3 - dig m (4 * i)) + (3 - dig m (4 * i + 1)) + (3 - dig m (4 * i + 2)) + (3 - dig m (4 * i + 3))
  omega
theorem restI_range (m : List Int) (i j : Nat) : 0 ≤ restI m i j ∧ restI m i j ≤ 3 * (4 * i + j) := by
  induction j with
  | zero =>
    have := leftU_range m (4 * i)
    show 0 ≤ leftU m (4 * i) ∧ leftU m (4 * i) ≤ _
    omega
  | succ j ih =>
    have := dig_range m (4 * i + (3 - j))
    show 0 ≤ restI m i j + (3 - dig m (4 * i + (3 - j))) ∧ restI m i j + (3 - dig m (4 * i + (3 - j))) ≤ _
    omega
theorem dig_down (m : List Int) (i j : Nat) (hj : j < 4) : dig m (4 * i + (3 - j)) = m.getD i 0 / 4 ^ j % 4 := by
  unfold dig
  rw [show (4 * i + (3 - j)) / 4 = i by omega, show 3 - (4 * i + (3 - j)) % 4 = j by omega]
theorem pow4_step (x : Int) (j : Nat) : x / 4 ^ (j + 1) = x / 4 ^ j / 4 := by
  rw [Int.pow_succ, Int.ediv_ediv_of_nonneg (Int.pow_nonneg (by decide))]
theorem div4_range (x : Int) (j : Nat) (h0 : 0 ≤ x) {b : Int} (h1 : x ≤ b) : 0 ≤ x / 4 ^ j ∧ x / 4 ^ j ≤ b := by
  induction j with
  | zero => simp; omega
  | succ j ih => rw [pow4_step]; omega
theorem part_as (m : List Int) (S T : Nat → Bool) (h : ∀ c, c < 68 → S c = T c) : part m S = part m T := by
  unfold part
  apply List.map_congr_left
  intro c hc
  rw [h c (List.mem_range.1 hc)]
theorem chk_down (l : Int) (j : Nat) (hj : j < 4) : chk l (3 - j) = l / 4 ^ j % 4 := by
  unfold chk
  rw [show 3 - (3 - j) = j by omega]
end Go.Proofs.Ytpljjmdkagbjpaa

namespace Go.Proofs.Ytpljjmdkagbjpaa
open Go.RowKit

set_option maxRecDepth 100000 in
set_option maxHeartbeats 4000000 in
theorem rdigits_any (m : List Int) (w : World) (hm : m.length = 16) (hb : Bytes m) :
    Calls Try.prog 9 #[.agg (kv .u8 m).toArray] w fun r w' => r = .returned (.agg (kv .u8 (digS m)).toArray) ∧ Below w.heap.size w w' := by
  have HM := Kp.mk hm
  have HB := Kp.mk hb
  obtain ⟨dl, hdl⟩ : ∃ dl, dl = digS m := ⟨_, rfl⟩
  rw [← hdl]
  have HDL := Kp.mk hdl
  clear hdl hm hb
  go_enter Try.func9, Try.ntmps9
  go_wp2_with (refine wpList_alloc_row rfl 33 rfl _ _ info33 ?_)
  obtain ⟨A, hA⟩ : ∃ A, A = w.heap.size := ⟨_, rfl⟩
  have HA := Kp.mk hA
  rw [← hA]
  refine wp_world (fun w2 => Row w2 A 22 .u8 m ∧ Row w2 (A + 1) 33 .u8 (List.replicate 68 0) ∧ Row w2 (A + 1 + 1) 33 .u8 (List.replicate 68 0) ∧ Below A w w2) ⟨(Blk.newAt (w := w) (.cells (kv .u8 m).toArray 22) hA).old _ |>.old _, (Blk.newAt _ (by rw [hA]; simp)).old _, Blk.newAt _ (by rw [hA]; simp), by rw [hA]; exact more (more (more (Below.refl _ _) _) _) _⟩ ?_
  rintro w2 ⟨h1, h2, h3, h4⟩
  have G1 := Kp.mk h1
  have G2 := Kp.mk h2
  have G3 := Kp.mk h3
  have G4 := Kp.mk h4
  clear h1 h2 h3 h4 hA
  go_loopw [4, 5] (fun l c wr => ∃ i : Nat, i ≤ 16 ∧ c = .int .i64 i ∧ l = .int .i64 (leftU m (4 * i)) ∧ Kp (Row wr A 22 .u8 m) ∧ Kp (Row wr (A + 1) 33 .u8 (List.replicate 68 0)) ∧ Kp (Row wr (A + 1 + 1) 33 .u8 (part m fun c => decide (c < 4 * i))) ∧ Kp (Below A w wr)) (fun _ c _ => 16 - (intOf c).toNat)
  case atStart => exact ⟨0, by omega, rfl, rfl, G1, G2, ⟨by rw [part_none]; exact G3.out⟩, G4⟩
  case round =>
    obtain ⟨i, hi, rfl, rfl, F1, F2, F3, F4⟩ := hrel
    clear G1 G2 G3 G4
    by_cases hlt : i < 16
    · have hx := F1.out.cell (i := i) (by have := HM.out; omega)
      have hxb := HB.out.at (i := i) (by have := HM.out; omega)
      have HX := Kp.mk hxb
      obtain ⟨x, hxe⟩ : ∃ x, x = m.getD i 0 := ⟨_, rfl⟩
      rw [← hxe] at hx hxb HX
      have HXE := Kp.mk hxe
      obtain ⟨L, hL⟩ : ∃ L, L = leftU m (4 * i) := ⟨_, rfl⟩
      rw [← hL]
      have HL := Kp.mk hL
      clear hxe hL
      have hlt' : (i : Int) < 16 := by omega
      go_wp2_with fail
      go_loopw [4, 6, 7] (fun l y k wq => ∃ j : Nat, j ≤ 4 ∧ ∃ q : Int, k = .int .i64 q ∧ Kp (q = 3 - j) ∧ l = .int .i64 (restI m i j) ∧ y = .int .u8 (x / 4 ^ j) ∧ Kp (Row wq A 22 .u8 m) ∧ Kp (Row wq (A + 1) 33 .u8 (List.replicate 68 0)) ∧ Kp (Row wq (A + 1 + 1) 33 .u8 (part m fun c => decide (c < 4 * i) || decide (4 * i + 4 - j ≤ c ∧ c < 4 * i + 4))) ∧ Kp (Below A w wq)) (fun _ _ k _ => (intOf k + 1).toNat)
      case atStart =>
        refine ⟨0, by omega, 3, rfl, ⟨rfl⟩, by rw [HL.out]; rfl, by simp, F1, F2, ⟨F3.out.as (part_as m _ _ fun c hc => ?_)⟩, F4⟩
        have e : decide (4 * i + 4 - 0 ≤ c ∧ c < 4 * i + 4) = false := decide_eq_false (by omega)
        rw [e, Bool.or_false]
      case round =>
        obtain ⟨j, hj, q, rfl, HQ, rfl, rfl, E1, E2, E3, E4⟩ := hrel
        clear F1 F2 F3 F4 hx
        obtain ⟨r, hr⟩ : ∃ r, r = restI m i j := ⟨_, rfl⟩
        have hrr := restI_range m i j
        rw [← hr] at hrr ⊢
        have HR := Kp.mk hr
        obtain ⟨y, hy⟩ : ∃ y, y = x / 4 ^ j := ⟨_, rfl⟩
        have hyr := div4_range x j HX.out.1 HX.out.2
        rw [← hy] at hyr ⊢
        have HY := Kp.mk hy
        clear hr hy
        by_cases hj4 : j < 4
        · obtain ⟨e, he⟩ : ∃ e : Nat, e = 3 - j := ⟨_, rfl⟩
          obtain rfl : q = (e : Int) := by have := HQ.out; omega
          have he3 : e ≤ 3 := by omega
          have HE := Kp.mk he
          clear he hj4
          have hfr := E3.out.frozen (4 * i + e)
          have hd := E3.out.cell (i := 4 * i + e) (by rw [part_len]; omega)
          generalize (part m fun c => decide (c < 4 * i) || decide (4 * i + 4 - j ≤ c ∧ c < 4 * i + 4)).getD (4 * i + e) 0 = d0 at *
          have hidx : (4 * (i : Int) + (e : Int)).toNat = 4 * i + e := by omega
          have hmod : 0 ≤ y % 4 ∧ y % 4 ≤ 3 := by omega
          go_wp2_with fail
          have hq := HQ.out
          have hqe := HE.out
          have hdg : y % 4 = digA m (4 * i + e) := by
            unfold digA
            rw [if_pos (by omega), HY.out, HXE.out, hqe, dig_down m i j (by omega)]
          have hT := part_step m (fun c => decide (c < 4 * i) || decide (4 * i + 4 - j ≤ c ∧ c < 4 * i + 4)) (fun c => decide (c < 4 * i) || decide (4 * i + 4 - (j + 1) ≤ c ∧ c < 4 * i + 4)) (4 * i + e) (by omega) (fun c => by
            by_cases h1 : c < 4 * i
            · simp [h1]
            · by_cases h2 : c = 4 * i + e
              · have h3 : 4 * i + 4 - (j + 1) ≤ c ∧ c < 4 * i + 4 := by omega
                rw [decide_eq_true h3, decide_eq_true h2, Bool.or_true, Bool.or_true]
              · have e2 : decide (c = 4 * i + e) = false := decide_eq_false h2
                rw [e2, Bool.or_false]
                congr 1
                rw [decide_eq_decide]
                omega)
          refine ⟨⟨j + 1, by omega, e - 1, rfl, ⟨by omega⟩, ?_, ?_, ⟨E1.out.other (by show A + 1 + 1 ≠ A; omega) _⟩, ⟨E2.out.other (by show A + 1 + 1 ≠ A + 1; omega) _⟩, ⟨(E3.out.set (4 * i + e) _).as (by rw [hdg]; exact hT)⟩, ⟨E4.out.setCell (p := ⟨A + 1 + 1, 4 * i + e, none⟩) (by show A ≤ A + 1 + 1; omega) _⟩⟩, by simp [intOf]⟩
          · have : r + 3 - y % 4 = restI m i (j + 1) := by
              show _ = restI m i j + (3 - dig m (4 * i + (3 - j)))
              rw [← HR.out, dig_down m i j (by omega), ← HXE.out, ← HY.out]
              omega
            rw [this]
          · rw [HY.out, pow4_step]
        · obtain rfl : j = 4 := by omega
          obtain rfl : q = -1 := by have := HQ.out; omega
          have K3 : Kp (Row wr (A + 1 + 1) 33 .u8 (part m fun c => decide (c < 4 * (i + 1)))) := ⟨E3.out.as (part_as m _ _ fun c hc => by
            by_cases h1 : c < 4 * i
            · have h2 : c < 4 * (i + 1) := by omega
              rw [decide_eq_true h1, decide_eq_true h2, Bool.true_or]
            · rw [decide_eq_false h1, Bool.false_or, decide_eq_decide]
              omega)⟩
          clear E3
          go_wp2_with fail
          refine ⟨⟨i + 1, by omega, by go_num, by rw [HR.out, restI_full], E1, E2, K3, E4⟩, by simp [intOf]; omega⟩
    · obtain rfl : i = 16 := by omega
      have hge : ¬ ((16 : Nat) : Int) < 16 := by omega
      obtain ⟨L, hL⟩ : ∃ L, L = leftU m (4 * 16) := ⟨_, rfl⟩
      have hLr := leftU_range m (4 * 16)
      rw [← hL] at hLr ⊢
      have HL := Kp.mk hL
      have F3' : Kp (Row wr (A + 1 + 1) 33 .u8 (part m fun c => decide (c < 64) || decide (68 - 0 ≤ c))) := ⟨F3.out.as (part_as m _ _ fun c hc => by
        rw [show decide (68 - 0 ≤ c) = false from decide_eq_false (by omega), Bool.or_false])⟩
      clear F3 hL
      go_wp2_with fail
      go_loopw [4, 8] (fun l k wq => ∃ j : Nat, j ≤ 4 ∧ ∃ q : Int, k = .int .i64 q ∧ Kp (q = 3 - j) ∧ l = .int .i64 (L / 4 ^ j) ∧ Kp (Row wq (A + 1) 33 .u8 (List.replicate 68 0)) ∧ Kp (Row wq (A + 1 + 1) 33 .u8 (part m fun c => decide (c < 64) || decide (68 - j ≤ c))) ∧ Kp (Below A w wq)) (fun _ k _ => (intOf k + 1).toNat)
      case atStart => exact ⟨0, by omega, 3, rfl, ⟨rfl⟩, by simp, F2, F3', F4⟩
      case round =>
        obtain ⟨j, hj, q, rfl, HQ, rfl, E2, E3, E4⟩ := hrel
        clear F1 F2 F3' F4
        obtain ⟨y, hy⟩ : ∃ y, y = L / 4 ^ j := ⟨_, rfl⟩
        have hyr := div4_range L j hLr.1 (b := 200) (by omega)
        rw [← hy] at hyr ⊢
        have HY := Kp.mk hy
        clear hy
        by_cases hj4 : j < 4
        · obtain ⟨e, he⟩ : ∃ e : Nat, e = 3 - j := ⟨_, rfl⟩
          obtain rfl : q = (e : Int) := by have := HQ.out; omega
          have he3 : e ≤ 3 := by omega
          have HE := Kp.mk he
          clear he hj4
          have hfr := E3.out.frozen (64 + e)
          have hd := E3.out.cell (i := 64 + e) (by rw [part_len]; omega)
          generalize (part m fun c => decide (c < 64) || decide (68 - j ≤ c)).getD (64 + e) 0 = d0 at *
          have hidx : (64 + (e : Int)).toNat = 64 + e := by omega
          have hmod : 0 ≤ y % 4 ∧ y % 4 ≤ 3 := by omega
          have hmod2 : y % 4 % 256 = y % 4 := by omega
          go_wp2_with fail
          have hq := HQ.out
          have hqe := HE.out
          have hdg : y % 4 = digA m (64 + e) := by
            unfold digA
            rw [if_neg (by omega), HY.out, HL.out, hqe, show 64 + (3 - j) - 64 = 3 - j by omega, show 4 * 16 = 64 from rfl, chk_down _ j (by omega)]
          have hT := part_step m (fun c => decide (c < 64) || decide (68 - j ≤ c)) (fun c => decide (c < 64) || decide (68 - (j + 1) ≤ c)) (64 + e) (by omega) (fun c => by
            by_cases h1 : c < 64
            · simp [h1]
            · by_cases h2 : c = 64 + e
              · have h3 : 68 - (j + 1) ≤ c := by omega
                rw [decide_eq_true h3, decide_eq_true h2, Bool.or_true, Bool.or_true]
              · have e2 : decide (c = 64 + e) = false := decide_eq_false h2
                rw [e2, Bool.or_false]
                congr 1
                rw [decide_eq_decide]
                omega)
          refine ⟨⟨j + 1, by omega, e - 1, rfl, ⟨by omega⟩, ?_, ⟨E2.out.other (by show A + 1 + 1 ≠ A + 1; omega) _⟩, ⟨(E3.out.set (64 + e) _).as (by rw [hdg]; exact hT)⟩, ⟨E4.out.setCell (p := ⟨A + 1 + 1, 64 + e, none⟩) (by show A ≤ A + 1 + 1; omega) _⟩⟩, by simp [intOf]⟩
          rw [HY.out, pow4_step]
        · obtain rfl : j = 4 := by omega
          obtain rfl : q = -1 := by have := HQ.out; omega
          have K3 : Kp (Row wr (A + 1 + 1) 33 .u8 dl) := ⟨HDL.out ▸ E3.out.as (part_all m _ fun c hc => by
            by_cases h : c < 64
            · simp [h]
            · have h4 : 68 - 4 ≤ c := by omega
              simp [h4])⟩
          have hlen : dl.length = 68 := by rw [HDL.out]; exact digS_len m
          have HLN := Kp.mk hlen
          have HC33 : Kp ((Try.prog.info? 33).map (·.size) = some (kv .u8 dl).toArray.size) := ⟨by rw [show (kv .u8 dl).toArray.size = 68 by simp [hlen]]; exact size33⟩
          have KR := Kp.mk (E2.out.setRow dl)
          have KB := Kp.mk (Below.row E4.out (g := A + 1) (by omega) (kv .u8 dl).toArray)
          have HZ : Kp ((kv .u8 (List.replicate 68 0)).toArray.size = (kv .u8 dl).toArray.size) := ⟨by rw [kv_size, kv_size, hlen]; simp⟩
          clear E3 hlen
          go_wp2_with (first
            | (refine wpList_load_row rfl 33 (.tmp 3) rfl (A + 1 + 1) rfl 33 (kv .u8 dl).toArray (0, 0) _ K3.out Try.underlying33 rfl HC33.out ?_)
            | (refine wpList_store_row rfl 33 (.tmp 2) (.tmp 47) rfl (A + 1) (kv .u8 dl).toArray rfl rfl 33 _ E2.out HC33.out HZ.out (kv_all _ _) ?_))
          refine bodyPost_ret (v := .agg (kv .u8 dl).toArray) (results_cell_row rfl _ _ (A + 1) 33 _ (0, 0) _ rfl KR.out Try.underlying33 rfl HC33.out) rfl ⟨rfl, by rw [← HA.out]; exact KB.out⟩
end Go.Proofs.Ytpljjmdkagbjpaa

namespace Go.Proofs.Ytpljjmdkagbjpaa
open Go.RowKit
theorem index_arr51 (l : List Int) (k : Nat) (hl : l.length = 68) (hk : k < 68) (w : World) : (Instr.index 33 (.agg (kv .u8 l).toArray) (.int .i64 (k : Int))).run Try.prog w = .ok (.int .u8 (l.getD k 0)) w := by
  have hn : 0 ≤ (k : Int) ∧ (k : Int) < ((68 : Nat) : Int) := by omega
  have hg : l[k]? = some (l.getD k 0) := by
    rw [List.getD_eq_getElem?_getD, List.getElem?_eq_getElem (by omega)]; rfl
  simp [Instr.index, run_underlying Try.underlying33, asIntOf, hn, go_sem]
  rw [if_pos hk, hg]
  rfl
end Go.Proofs.Ytpljjmdkagbjpaa

namespace Go.Proofs.Ytpljjmdkagbjpaa
open Go.RowKit

theorem predOp_val {P : Program} {ops : Array Oper} {o : Oper} {V : World → Value → Prop} {a : Act} {w : World} {v : Value} (hw : Region.wanted o (yielded ops a.tmps) = true) (he : (execOp a.eval o).run P w = .ok (.value v) w) (hv : V w v) : PredOp P ops o V a w := Or.inl ⟨hw, predRun_value he hv⟩
theorem cellsL27 {l : List Int} (h : l.length = 16) : (Try.prog.info? 43).map (·.size) = some (kv .u8 l).length := by rw [List.length_map, h]; exact info50
end Go.Proofs.Ytpljjmdkagbjpaa
