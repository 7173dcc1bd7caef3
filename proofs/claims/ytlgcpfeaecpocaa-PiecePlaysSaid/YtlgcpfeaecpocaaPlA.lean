/-
  The document's joiner: what it has, Part, Waits.
-/
import Derived.Test.YtlgcpfeaecpocaaPjC
namespace Go.Proofs.Ytlgcpfeaecpocaa
open Go.RowKit

theorem results_row_tmp {P : Program} {fn : Func} {p q : Tmp} {ty : TypeId} (h : fn.results = #[.cell p ty, .tmp q]) (tmps : Array Value) (w : World) (g : Nat) (t : TypeId) (cs : Array Value) (fr : Nat × Nat) (d : TypeDesc) (u : Value)
    (hp : tmps.getD p undef = .pointer (some ⟨g, 0, none⟩)) (hq : tmps.getD q undef = u) (hg : w.heap[g]? = some (.cells cs t fr))
    (hu : P.underlying ty = some d) (hd : (match d with | .struct _ | .array _ _ => true | _ => false) = true) (hi : (P.info? ty).map (·.size) = some cs.size) :
    (results fn tmps).run P w = .ok (.tuple #[.agg cs, u]) w := by
  have hp' : tmps[p]?.getD undef = .pointer (some ⟨g, 0, none⟩) := by simpa using hp
  have hq' : tmps[q]?.getD undef = u := by simpa using hq
  simp [results, h, hp', hq', asAddr, run_loadVar_row w g t ty cs fr d hg hu hd hi]
theorem there4 {w : World} {F : Nat} {x0 x1 x2 x3 : Value} {t : TypeId} (h : Blk w F (.cells #[x0, x1, x2, x3] t)) : w.there F 0 4 := fun j hj => ⟨match j, hj with
  | 0, _ => by rw [h.cell 0]; rfl
  | 1, _ => by rw [h.cell 1]; rfl
  | 2, _ => by rw [h.cell 2]; rfl
  | 3, _ => by rw [h.cell 3]; rfl
  | j + 4, hj => absurd hj (by omega), h.frozen _⟩
theorem turn4 {w : World} {F : Nat} {x0 x1 x2 x3 : Value} {t : TypeId} (h : Blk w F (.cells #[x0, x1, x2, x3] t)) (y0 y1 y2 y3 : Value) : Turn F (.cells #[y0, y1, y2, y3] t) w (w.setCells F 0 [y0, y1, y2, y3]) := ((((Turn.same h).set 0 _).set 1 _).set 2 _).set 3 _
theorem one4 (n1 n2 n3 : Int) (a : Option Addr) (n c : Nat) : (#[.int .u32 n1, .int .i64 n2, .int .i64 n3, .slice a n c] : Array Value).all (·.oneCell') = true :=
  all_oneCell_toArray (cs := [.int .u32 n1, .int .i64 n2, .int .i64 n3, .slice a n c]) (by intro v hv; simp only [List.mem_cons, List.not_mem_nil, or_false] at hv; rcases hv with rfl | rfl | rfl | rfl <;> rfl)
set_option maxHeartbeats 1000000 in
theorem rright_any (p : PV) (w : World) : Calls Try.prog 29 #[p.v] w fun r w' => r = .returned (.bool (rightB p)) ∧ Below w.heap.size w w' := by
  by_cases h1 : 1 ≤ p.many
  · by_cases h2 : p.many ≤ 32
    · by_cases h3 : 0 ≤ p.at_
      · by_cases h4 : p.at_ < p.many
        · by_cases h5 : p.n ≤ 4096
          · have HE : Hid (rightB p = true) := by unfold Hid rightB; simp [h1, h2, h3, h4, h5]
            have h5' : (p.n : Int) ≤ 4096 := by omega
            go_enter Try.func29, Try.ntmps29
            go_wp2_with fail
            go_ret
            exact ⟨retb HE.out.symm, more (Below.refl _ _) _⟩
          · have HE : Hid (rightB p = false) := by unfold Hid rightB; simp [h5]
            have h5' : ¬ (p.n : Int) ≤ 4096 := by omega
            go_enter Try.func29, Try.ntmps29
            go_wp2_with fail
            go_ret
            exact ⟨retb HE.out.symm, more (Below.refl _ _) _⟩
        · have HE : Hid (rightB p = false) := by unfold Hid rightB; simp [h4]
          go_enter Try.func29, Try.ntmps29
          go_wp2_with fail
          go_ret
          exact ⟨retb HE.out.symm, more (Below.refl _ _) _⟩
      · have HE : Hid (rightB p = false) := by unfold Hid rightB; simp [h3]
        go_enter Try.func29, Try.ntmps29
        go_wp2_with fail
        go_ret
        exact ⟨retb HE.out.symm, more (Below.refl _ _) _⟩
    · have HE : Hid (rightB p = false) := by unfold Hid rightB; simp [h2]
      go_enter Try.func29, Try.ntmps29
      go_wp2_with fail
      go_ret
      exact ⟨retb HE.out.symm, more (Below.refl _ _) _⟩
  · have HE : Hid (rightB p = false) := by unfold Hid rightB; simp [h1]
    go_enter Try.func29, Try.ntmps29
    go_wp2_with fail
    go_ret
    exact ⟨retb HE.out.symm, more (Below.refl _ _) _⟩
theorem rightB_is {p : PV} (h : rightB p = true) : 1 ≤ p.many ∧ p.many ≤ 32 ∧ 0 ≤ p.at_ ∧ p.at_ < p.many ∧ p.n ≤ 4096 := by unfold rightB at h; exact of_decide_eq_true h
structure RJ where
  any : Bool
  over : Bool
  id : Int
  many : Int
  ps : List PcV
abbrev rjc (R : RJ) (v : Value) : Array Value := #[.bool R.any, .bool R.over, .int .u32 R.id, .int .i64 R.many, v]
/-- A row of pieces of its own, whose texts lie below B. -/
structure QRow (w : World) (B : Nat) (v : Value) (l : List PcV) : Prop where
  r : w.ownsRow B 25 4 v l.length (rcells l)
  t : ∀ x ∈ l, HoldsB w B x.v x.l
theorem QRow.keep {w w' : World} {B : Nat} {v : Value} {l : List PcV} (h : QRow w B v l) (hb : Below w.heap.size w w') : QRow w' B v l := ⟨ownsRow_below h.r hb, fun x hx => (h.t x hx).keep hb⟩
theorem QRow.nil (w : World) (B : Nat) : QRow w B (.slice none 0 0) [] := ⟨World.ownsRow_nil _ _ _ _, fun x hx => by cases hx⟩
theorem QRow.shape {w : World} {B : Nat} {v : Value} {l : List PcV} (h : QRow w B v l) : ∃ a n c, v = .slice a n c ∧ n = l.length := by
  rcases h.r.2 with ⟨e, h0⟩ | ⟨g, cap, cur, e, _⟩
  · exact ⟨_, _, _, e, h0.symm⟩
  · exact ⟨_, _, _, e, rfl⟩
theorem QRow.at {w : World} {B : Nat} {v : Value} {l : List PcV} (h : QRow w B v l) {i : Nat} (hi : i < l.length) : ∃ lb cap, v = .slice (some ⟨lb, 0, none⟩) l.length cap ∧ B ≤ lb ∧ w.rangeAt lb (i * 4) (pcc l[i]) := by
  rcases h.r.2 with ⟨_, hn⟩ | ⟨g, cap, cur, rfl, a1, a2, a3, a4, a5, a6⟩
  · omega
  · refine ⟨g, cap, rfl, a1, fun j u hu => ?_⟩
    have h7 := rcells_at hi hu
    rw [cell_of_row w g (i * 4 + j) _ 25 (0, 0) a2]
    rw [← a6, List.getElem?_take] at h7
    split at h7
    · simpa using h7
    · cases h7
def findP (l : List PcV) (k : Int) : Option PcV := l.find? fun x => decide (x.at_ = k)
def partV (o : Option PcV) : Array Value := match o with | some x => (pcc x).toArray | none => #[.int .u32 0, .int .i64 0, .int .i64 0, .slice none 0 0]
theorem findP_drop {l : List PcV} {i : Nat} (hi : i < l.length) (k : Int) : findP (l.drop i) k = if l[i].at_ = k then some l[i] else findP (l.drop (i + 1)) k := by
  unfold findP
  rw [List.drop_eq_getElem_cons hi, List.find?_cons]
  by_cases h : l[i].at_ = k
  · rw [if_pos h]; simp [h]
  · rw [if_neg h]; simp [h]
set_option maxRecDepth 100000 in
set_option maxHeartbeats 4000000 in
theorem rpart_any (B : Nat) (R : RJ) (v : Value) (k : Int) (w : World) (h : QRow w B v R.ps) (hl : R.ps.length ≤ 32) :
    Calls Try.prog 46 #[.agg (rjc R v), .int .i64 k] w fun r w' => r = .returned (.tuple #[.agg (partV (findP R.ps k)), .bool (findP R.ps k).isSome]) ∧ Below w.heap.size w w' := by
  obtain ⟨va, n, vc, rfl, hn⟩ := h.shape
  have H := Kp.mk h
  have HN := Kp.mk hn
  have hn32 : n ≤ 32 := by omega
  clear h hn hl
  obtain ⟨any, over, id, many, ps⟩ := R
  simp only [] at H HN
  go_enter Try.func46, Try.ntmps46
  go_wp2_with fail
  obtain ⟨F, hF⟩ : ∃ F, F = w.heap.size := ⟨_, rfl⟩
  have HFe := Kp.mk hF
  refine wp_world (fun W => Blk W F (.cells #[.bool any, .bool over, .int .u32 id, .int .i64 many, .slice va n vc] 51) ∧ Blk W (F + 1) (.cells #[.int .u32 0, .int .i64 0, .int .i64 0, .slice none 0 0] 25) ∧ Below F w W) ⟨(Blk.newAt _ hF).old _, Blk.newAt _ (by simp [hF]), by rw [hF]; exact more (more (Below.refl _ _) _) _⟩ ?_
  rintro W ⟨h1, h2, h3⟩
  have HJ := Kp.mk h1
  have HZ := Kp.mk h2
  have HB := Kp.mk h3
  rw [← hF]
  clear h1 h2 h3 hF
  go_loopw [6] (fun c wr => ∃ i : Nat, i ≤ n ∧ c = .int .i64 i ∧ wr = W ∧ Kp (findP (ps.drop i) k = findP ps k)) (fun c _ => n - (intOf c).toNat)
  case atStart => exact ⟨0, by omega, rfl, rfl, ⟨rfl⟩⟩
  case round =>
    obtain ⟨i, hi, rfl, rfl, HE⟩ := hrel
    have c4 : wr.cell? ⟨F, 4, none⟩ = some (.slice va n vc) := HJ.out.cell 4
    have HQ : Kp (QRow wr B (.slice va n vc) ps) := ⟨⟨ownsRow_below H.out.r (by rw [← HFe.out]; exact HB.out), fun x hx => (H.out.t x hx).keep (by rw [← HFe.out]; exact HB.out)⟩⟩
    by_cases hlt : i < n
    · have hlt' : (i : Int) < (n : Int) := by omega
      have hil : i < ps.length := by rw [← HN.out]; exact hlt
      obtain ⟨lb, cap, e, -, hr⟩ := HQ.out.at hil
      simp only [Value.slice.injEq] at e
      obtain ⟨rfl, -, -⟩ := e
      have hfd := findP_drop hil k
      have HX : Kp (∃ a n c, (ps[i]'hil).v = .slice a n c) := ⟨by obtain ⟨a, n, c, e, -⟩ := (HQ.out.t _ (List.getElem_mem hil)).slice; exact ⟨a, n, c, e⟩⟩
      obtain ⟨x, hx⟩ : ∃ x, x = ps[i]'hil := ⟨_, rfl⟩
      rw [← hx] at hr hfd HX
      clear hx
      obtain ⟨xi, xa, xm, xv, xl⟩ := x
      obtain ⟨pa, pn, pc, e⟩ := HX.out
      simp only [] at e
      subst e
      have HR := Kp.mk hr
      unfold pcc at HR
      simp only [] at HR hfd
      have c1 : wr.cell? ⟨lb, i * 4 + 1, none⟩ = some (.int .i64 xa) := HR.out 1 _ rfl
      have HFD := Kp.mk hfd
      by_cases hk : xa = k
      · have hk2 : (xa == k) = true := by simpa using hk
        have HFF : Kp (findP ps k = some ⟨xi, xa, xm, .slice pa pn pc, xl⟩) := ⟨by rw [← HE.out, HFD.out, if_pos hk]⟩
        rw [HFF.out]
        have HTH := Kp.mk (there4 HZ.out)
        have HTU := Kp.mk (turn4 HZ.out (.int .u32 xi) (.int .i64 xa) (.int .i64 xm) (.slice pa pn pc))
        have H1C : Kp ((#[.int .u32 xi, .int .i64 xa, .int .i64 xm, .slice pa pn pc] : Array Value).all (·.oneCell') = true) := ⟨one4 _ _ _ _ _ _⟩
        clear hk hfd hr
        go_wp2_with (first
          | (refine wpList_load_mid rfl 25 (.tmp 25) rfl lb (i * 4) rfl [.int .u32 xi, .int .i64 xa, .int .i64 xm, .slice pa pn pc] _ HR.out Try.underlying25 rfl info25s ?_)
          | (refine wpList_store_mid rfl 25 (.tmp 4) (.tmp 26) rfl (F + 1) 0 #[.int .u32 xi, .int .i64 xa, .int .i64 xm, .slice pa pn pc] rfl rfl HTH.out info25s H1C.out ?_; refine wpl_world (Turn (F + 1) (.cells #[.int .u32 xi, .int .i64 xa, .int .i64 xm, .slice pa pn pc] 25) wr) HTU.out ?_; intro W9 HT9))
        have HB9 : Kp (Below F w W9) := ⟨HB.out.trans (HT9.below (by omega) (by have := HJ.out.lt; omega))⟩
        have HBK := Kp.mk HT9.blk
        clear HT9
        exact bodyPost_ret (results_row_tmp rfl _ _ (F + 1) 25 _ (0, 0) _ _ rfl rfl HBK.out Try.underlying25 rfl info25s) rfl ⟨by rw [HFF.out]; rfl, by rw [← HFe.out]; exact HB9.out⟩
      · have hk2 : (xa == k) = false := by simpa using hk
        have HE2 : Kp (findP (ps.drop (i + 1)) k = findP ps k) := ⟨by rw [← HE.out, HFD.out, if_neg hk]⟩
        clear hk hfd hr
        go_wp2_with fail
        exact ⟨⟨i + 1, by omega, by go_num, by trivial, HE2⟩, by simp [intOf]; omega⟩
    · have hee : i = n := by omega
      have hle : ¬ (i : Int) < (n : Int) := by omega
      have HFF : Kp (findP ps k = none) := ⟨by rw [← HE.out, List.drop_of_length_le (by rw [← HN.out]; omega)]; rfl⟩
      rw [HFF.out]
      have HTH := Kp.mk (there4 HZ.out)
      have HTU := Kp.mk (turn4 HZ.out (.int .u32 0) (.int .i64 0) (.int .i64 0) (.slice none 0 0))
      have H1C : Kp ((#[.int .u32 0, .int .i64 0, .int .i64 0, .slice none 0 0] : Array Value).all (·.oneCell') = true) := ⟨one4 _ _ _ _ _ _⟩
      clear hee
      go_wp2_with (refine wpList_store_mid rfl 25 (.tmp 4) (.tmp 27) rfl (F + 1) 0 #[.int .u32 0, .int .i64 0, .int .i64 0, .slice none 0 0] rfl rfl HTH.out info25s H1C.out ?_; refine wpl_world (Turn (F + 1) (.cells #[.int .u32 0, .int .i64 0, .int .i64 0, .slice none 0 0] 25) wr) HTU.out ?_; intro W9 HT9)
      have HB9 : Kp (Below F w W9) := ⟨HB.out.trans (HT9.below (by omega) (by have := HJ.out.lt; omega))⟩
      have HBK := Kp.mk HT9.blk
      clear HT9
      exact bodyPost_ret (results_row_tmp rfl _ _ (F + 1) 25 _ (0, 0) _ _ rfl rfl HBK.out Try.underlying25 rfl info25s) rfl ⟨by rw [HFF.out]; rfl, by rw [← HFe.out]; exact HB9.out⟩
end Go.Proofs.Ytlgcpfeaecpocaa
