/-
  The document's Split, and the program's where there is none.
  How many pieces there are; where there are none.
  bytes.Clone, by its other name.
  The contracts of Out's small calls.
  The contracts of Out's numbers.
  The contract of Out's numbers of 1, 4, 8 bytes.
-/
import Derived.Test.YtioeaknhcfkfcaaBu04
import Derived.ArgAppend
import Derived.OwnWalk
import Derived.IntWalk
namespace Go.Proofs.Ytioeaknhcfkfcaa
open Go.RowKit

theorem one_new (w : World) (v : Value) (t : TypeId) : ∀ j u, [v][j]? = some u → (w.alloc (.cells #[v] t)).cell? ((⟨w.heap.size, 0, none⟩ : Addr).add j) = some u := by
  intro j u hj
  match j, hj with
  | 0, hj =>
    simp at hj
    subst hj
    exact (Blk.new w (.cells #[v] t)).cell 0
theorem wpList_append_own2 {P : Program} {w : World} {ops : Array Oper} {rest : List Oper} {o : Oper} {a : Act} {Q : Exit → Act → World → Prop} (hgd : o.guard = none) (s x : Operand) (t : TypeId)
    (ho : o.op = .call { callee := .builtin .append, args := #[s, x], argTypes := #[t, t] })
    (base : Nat) (e : TypeId) (i : TypeInfo) (z : Value) (size bytes : Nat) (ht : P.underlying t = some (.slice e)) (hi : P.info? e = some i) (hz : i.zero = some z)
    (hsize : i.size = size) (hby : i.bytes = bytes) (hzs : z.cells.size = size) (hsz : 0 < size)
    (v : Value) (n : Nat) (xs : List Value) (hs : a.eval s = v) (hown : w.ownsRow base e size v n xs)
    (ad : Addr) (m c : Nat) (news : List Value) (hx : a.eval x = .slice (some ad) m c) (hl : news.length = m * size) (hnews : ∀ j u, news[j]? = some u → w.cell? (ad.add j) = some u) (h1 : ∀ u ∈ news, u.oneCell' = true)
    (h63 : n + m ≤ maxLen) (hbytes : (n + m) * bytes ≤ 140737488355328) (hbase : base ≤ w.heap.size)
    (h : ∀ v' w', w'.ownsRow base e size v' (n + m) (xs ++ news) → w.grownBy w' v.ownBlock → (∀ k, v'.ownBlock = some k → v.ownBlock = some k ∨ w.heap.size ≤ k) → wpList P ops Q rest (a.put o.dst v') w') : wpList P ops Q (o :: rest) a w := by
  have hv := hown.2
  rcases hv with ⟨hv, h0⟩ | ⟨g, cap, cur, hv, hg, hh, hn, hc, hsz2, htk⟩
  · subst h0
    have hxs : xs = [] := List.eq_nil_of_length_eq_zero (by simpa using hown.1)
    subst hxs
    refine wpList_plain hgd fun K hK => ?_
    rw [hv] at hs
    obtain ⟨v', w', hrun, r1, r2, _⟩ := run_append_own (P := P) w w.heap.size t o.type e i z size bytes ht hi hz hsize hby hzs hsz (.slice none 0 0) 0 [] (World.ownsRow_nil w _ e size) ad m c news hl hnews h1 h63 hbytes (Nat.le_refl _)
    unfold Oper.wp
    simp [execOp, ho, resolve, invoke, builtin, hs, hx, hrun, Result.andThen]
    refine hK _ _ (h v' w' (ownsRow_base r1 hbase) (by rw [hv]; exact r2) fun k hk => .inr (r1.lt k hk).1)
  · subst hv
    by_cases hroom : n + m ≤ cap
    · refine wpList_append_fits w hgd s x t ho base e i size ht hi hsize g n cap xs hs hown ad m c news hx hl hnews h1 hroom fun w' h2 h3 => ?_
      exact h _ w' h2 h3 fun k hk => .inl hk
    · refine wpList_append_grows w hgd s x t ho e i z size bytes ht hi hz hsize hby hzs hsz (some ⟨g, 0, none⟩) n cap xs hs (fun e => by cases e) hown.1 (fun b hb => by cases hb; exact hown.cells rfl) ad m c news hx hl hnews h1 (by omega) h63 hbytes fun v' w' h2 h3 => ?_
      exact h v' w' (ownsRow_base h2 hbase) ⟨h3.os, h3.tape, h3.output, h3.size, fun k hk _ => h3.block k hk (by simp)⟩ fun k hk => .inr (h2.lt k hk).1


theorem wp_buildSlice_one {P : Program} {o : Oper} {a : Act} {w : World} {K : Act → World → Prop} {Q : Exit → Act → World → Prop} (t : TypeId) (len : Nat) (x : Operand) (ho : o.op = .buildSlice t len #[(0, x)])
    (u : Value) (hx : a.eval x = u) (v : Value) (w' : World) (hrun : (Instr.buildSlice t len #[(0, u)]).run P w = .ok v w') (h : K (a.put o.dst v) w') : o.wp P a w K Q := by
  subst hx
  unfold Oper.wp execOp
  simp only [ho, Sem.run_bind, List.map_toArray, List.map_cons, List.map_nil, hrun, Result.andThen_ok]
  exact h
theorem wpList_buildSlice_one {P : Program} {ops : Array Oper} {rest : List Oper} {o : Oper} {a : Act} {w : World} {Q : Exit → Act → World → Prop} (hg : o.guard = none) (t : TypeId) (len : Nat) (x : Operand) (ho : o.op = .buildSlice t len #[(0, x)])
    (u : Value) (hx : a.eval x = u) (v : Value) (w' : World) (hrun : (Instr.buildSlice t len #[(0, u)]).run P w = .ok v w') (h : wpList P ops Q rest (a.put o.dst v) w') : wpList P ops Q (o :: rest) a w :=
  wpList_plain hg fun _ hK => wp_buildSlice_one t len x ho u hx v w' hrun (hK _ _ h)
theorem build44 (id at_ m : Int) (a : Option Addr) (n c : Nat) (w : World) : (Instr.buildSlice 105 1 #[(0, .agg #[.int .u32 id, .int .i64 at_, .int .i64 m, .slice a n c])]).run Try.prog w = .ok (.slice (some ⟨w.heap.size, 0, none⟩) 1 1) (w.alloc (.cells #[.int .u32 id, .int .i64 at_, .int .i64 m, .slice a n c] 109)) := by kernel_rfl
theorem info25z : (Try.prog.info? 109).map (fun i => (i.zero, i.size, i.bytes)) = some (some (.agg #[.int .u32 0, .int .i64 0, .int .i64 0, .slice none 0 0]), 4, 48) := by kernel_rfl
theorem row_new4 (w : World) (x : PcV) : ∀ j u, (pcc x)[j]? = some u → (w.alloc (.cells #[.int .u32 x.id, .int .i64 x.at_, .int .i64 x.many, x.v] 109)).cell? ((⟨w.heap.size, 0, none⟩ : Addr).add j) = some u := by
  intro j u hj
  match j, hj with
  | 0, hj => simp [pcc] at hj; subst hj; exact (Blk.new w _).cell 0
  | 1, hj => simp [pcc] at hj; subst hj; exact (Blk.new w _).cell 1
  | 2, hj => simp [pcc] at hj; subst hj; exact (Blk.new w _).cell 2
  | 3, hj => simp [pcc] at hj; subst hj; exact (Blk.new w _).cell 3
  | j + 4, hj => simp [pcc] at hj
def RSplitPost (id : Int) (bl : List Int) (sz m : Nat) (w : World) (r : Ending) (w' : World) : Prop :=
  ∃ v l, r = .returned (.tuple #[v, .int .i64 0]) ∧ Below w.heap.size w w' ∧ DRow w' w.heap.size v l ∧ l.length = m ∧ ∀ (k : Nat) (x : PcV), l[k]? = some x → x.id = id ∧ x.at_ = k ∧ x.many = m ∧ x.l = pieceL bl sz k
def manyN (n sz : Nat) : Nat := if n % sz ≠ 0 ∨ n / sz = 0 then n / sz + 1 else n / sz
set_option maxRecDepth 100000 in
set_option maxHeartbeats 4000000 in
theorem rsplit_any (id : Int) (sz : Nat) (v : Value) (bl : List Int) (w : World) (h : HoldsB w w.heap.size v bl) (hs : 1 ≤ sz ∧ sz ≤ 4096) (hl : bl.length ≤ 16384) (hm32 : manyN bl.length sz ≤ 32) (hk : ∀ k, k < manyN bl.length sz → k * sz ≤ bl.length) :
    Calls Try.prog 43 #[.int .u32 id, v, .int .i64 sz] w (RSplitPost id bl sz (manyN bl.length sz) w) := by
  have H := Kp.mk h
  obtain ⟨a, n, cap, rfl, hn⟩ := h.slice
  have HN := Kp.mk hn
  have hn16 : n ≤ 16384 := by omega
  obtain ⟨i0, hi, hz0, hz1, hz2⟩ := info_parts info5
  obtain ⟨i25, hi25, hy0, hy1, hy2⟩ := info_parts info25z
  have hz1' : ¬ (sz : Int) < 1 := by omega
  have hz2' : ¬ (4096 : Int) < sz := by omega
  have hz3' : ¬ (16384 : Int) < n := by omega
  have hsz0 : ¬ (sz : Int) = 0 := by omega
  have hsz1 : ¬ (sz : Int) = -1 := by omega
  obtain ⟨m, hm⟩ : ∃ m, m = manyN bl.length sz := ⟨_, rfl⟩
  rw [← hm] at hm32 hk ⊢
  have hm3 : ¬ (32 : Int) < m := by omega
  have HKK := Kp.mk hk
  obtain ⟨qt, hqt⟩ : ∃ qt, qt = n / sz := ⟨_, rfl⟩
  obtain ⟨rm, hrm⟩ : ∃ rm, rm = n % sz := ⟨_, rfl⟩
  have hq1 : (n : Int).tdiv sz = (qt : Nat) := by rw [hqt]; rfl
  have hr1 : (n : Int).tmod sz = (rm : Nat) := by rw [hrm]; rfl
  have hqb : qt ≤ 16384 := by rw [hqt]; exact Nat.le_trans (Nat.div_le_self _ _) hn16
  have HMM : Kp (m = if rm ≠ 0 ∨ qt = 0 then qt + 1 else qt) := ⟨by rw [hm, ← hn, hrm, hqt]; rfl⟩
  have hcase : (rm ≠ 0 ∧ m = qt + 1) ∨ (rm = 0 ∧ qt = 0 ∧ m = 1) ∨ (rm = 0 ∧ qt ≠ 0 ∧ m = qt) := by
    have := HMM.out
    by_cases h1 : rm = 0
    · by_cases h2 : qt = 0
      · rw [if_pos (.inr h2)] at this; exact .inr (.inl ⟨h1, h2, by omega⟩)
      · rw [if_neg (by simp [h1, h2])] at this; exact .inr (.inr ⟨h1, h2, this⟩)
    · rw [if_pos (.inl h1)] at this; exact .inl ⟨h1, this⟩
  clear h hn hl hk hm hqt hrm HMM
  have HKM : Kp (∀ i, i < m → ((i : Int) * sz = ((i * sz : Nat) : Int)) ∧ i * sz ≤ 16384) := ⟨fun i h => ⟨by simp, Nat.le_trans (HKK.out i h) (by rw [← HN.out]; exact hn16)⟩⟩
  have HL : ∀ (a : Act), True := fun _ => trivial
  clear HL
  rcases hcase with ⟨h1, h2⟩ | ⟨h1, h2, h3⟩ | ⟨h1, h2, h3⟩
  case' inl =>
    have b1 : ((rm : Int) != 0) = true := by simp; omega
    have b2 : (qt : Int) + 1 = (m : Nat) := by omega
    have b3 : IntKind.i64.wrap (m : Nat) = (m : Nat) := IntWalk.i64_in _ (by omega)
    clear h1 h2
    go_enter Try.func43, Try.ntmps43
    go_wp2_with fail
  case' inr.inl =>
    have b1 : ((rm : Int) != 0) = false := by simp; omega
    have b1' : ((qt : Int) == 0) = true := by simp; omega
    have b2 : (qt : Int) + 1 = (m : Nat) := by omega
    have b3 : IntKind.i64.wrap (m : Nat) = (m : Nat) := IntWalk.i64_in _ (by omega)
    clear h1 h2 h3
    go_enter Try.func43, Try.ntmps43
    go_wp2_with fail
  case' inr.inr =>
    have b1 : ((rm : Int) != 0) = false := by simp; omega
    have b1' : ((qt : Int) == 0) = false := by simp; omega
    have b2 : (qt : Int) = (m : Nat) := by omega
    clear h1 h2 h3
    go_enter Try.func43, Try.ntmps43
    go_wp2_with fail
  all_goals
    clear b1 b2
    try clear b1'
    try clear b3
    go_loopw [9, 10] (fun v9 c wr => ∃ (i : Nat) (l : List PcV), i ≤ m ∧ c = .int .i64 i ∧ l.length = i ∧ Kp (DRow wr w.heap.size v9 l) ∧ Kp (Below w.heap.size w wr) ∧ Kp (∀ (k : Nat) (x : PcV), l[k]? = some x → x.id = id ∧ x.at_ = k ∧ x.many = m ∧ x.l = pieceL bl sz k)) (fun _ c _ => m - (intOf c).toNat)
    case atStart => exact ⟨0, [], by omega, rfl, rfl, ⟨DRow.nil _ _⟩, ⟨Below.refl _ _⟩, ⟨fun k x hx => by simp at hx⟩⟩
    case round =>
      obtain ⟨i, l, hi', rfl, hll, HD, HB, HX⟩ := hrel
      by_cases hlt : i < m
      · have hlt' : (i : Int) < (m : Int) := by omega
        obtain ⟨kz, hkz⟩ : ∃ kz : Nat, kz = i * sz := ⟨_, rfl⟩
        obtain ⟨e, he⟩ : ∃ e : Nat, e = min ((i + 1) * sz) bl.length := ⟨_, rfl⟩
        have hke : kz ≤ e := by have := HKK.out i hlt; rw [he, hkz, Nat.add_mul]; omega
        have hen : e ≤ n := by rw [he, HN.out]; exact Nat.min_le_right _ _
        have hm1 : (i : Int) * sz = (kz : Nat) := by rw [hkz]; simp
        have hm2 : IntKind.i64.wrap (kz : Nat) = (kz : Nat) := IntWalk.i64_in _ (by omega)
        have hm4 : IntKind.i64.wrap ((kz : Int) + sz) = (kz : Int) + sz := IntWalk.i64_in _ (by omega)
        have HE : Kp (e = min (kz + sz) n) := ⟨by rw [he, hkz, HN.out, Nat.add_mul]; omega⟩
        have HPL : Kp (pieceL bl sz i = (bl.take e).drop kz) := ⟨by unfold pieceL; rw [← hkz, ← he]⟩
        have HEL : Kp (((bl.take e).drop kz).length = e - kz) := ⟨by rw [List.length_drop, List.length_take]; have := HN.out; omega⟩
        clear hkz he
        go_wp2_with fail
        have hsz64 : (sz : Int) ≤ 4096 := by omega
        obtain ⟨W1, hW1⟩ : ∃ W1 : World, W1 = wr := ⟨_, rfl⟩
        have HD1 : Kp (DRow W1 w.heap.size u9 l) := ⟨by rw [hW1]; exact HD.out⟩
        have HB1 : Kp (Below w.heap.size w W1) := ⟨by rw [hW1]; exact HB.out⟩
        rw [← hW1]
        clear HD HB hW1
        go_loopw [11, 12] (fun v11 c wq => ∃ j : Nat, j ≤ e - kz ∧ c = .int .i64 ((kz + j : Nat) : Int) ∧ Kp (wq.ownsRow W1.heap.size 5 1 v11 j (bv (((bl.take e).drop kz).take j))) ∧ Kp (Below W1.heap.size W1 wq)) (fun _ c _ => e - (intOf c).toNat)
        case atStart => exact ⟨0, by omega, rfl, ⟨World.ownsRow_nil _ _ _ _⟩, ⟨Below.refl _ _⟩⟩
        case round =>
          obtain ⟨j, hj, rfl, HO, HC⟩ := hrel
          obtain ⟨K, hK⟩ : ∃ K : Nat, K = kz + j := ⟨_, rfl⟩
          rw [← hK]
          by_cases hjt : j < e - kz
          · have hKn : K < n := by omega
            have hKn' : (K : Int) < (n : Int) := by omega
            have hKs : (K : Int) < (kz : Int) + (sz : Nat) := by have := HE.out; omega
            have hKt : (K : Int).toNat = K := by omega
            obtain ⟨b, off, rfl, -, hc⟩ := ((H.out.keep HB1.out).keep (HC.out.mono (by have := HB1.out.size; omega))).cellAt (i := K) (by have := HN.out; omega)
            have HX1 : Kp (bv (((bl.take e).drop kz).take (j + 1)) = bv (((bl.take e).drop kz).take j) ++ [.int .u8 (bl.getD K 0)]) := ⟨by
              have hdl : j < ((bl.take e).drop kz).length := by rw [HEL.out]; exact hjt
              rw [List.take_succ_eq_append_getElem hdl, bv, List.map_append, List.getElem_drop, List.getElem_take, List.getD_eq_getElem?_getD, List.getElem?_eq_getElem (by have := HN.out; omega)]
              simp only [hK]
              rfl⟩
            have HKJ := Kp.mk hK
            generalize bl.getD K 0 = x at *
            have hwK : IntKind.i64.wrap ((K : Int) + 1) = (K : Int) + 1 := IntWalk.i64_in _ (by omega)
            clear hK
            generalize bv (((bl.take e).drop kz).take j) = xs at HO HX1
            go_wp2_with (at_builtin; refine wpList_append_own2 rfl (.tmp 64) (.tmp 69) 39 rfl W1.heap.size 5 i0 (.int .u8 0) 1 1 Try.underlying39 hi hz0 hz1 hz2 rfl (by decide) _ _ _ rfl (ownsRow_below HO.out (more (Below.refl _ _) _)) ⟨wr.heap.size, 0, none⟩ 1 1 [.int .u8 x] rfl ?c0 (one_new _ _ _) ?c2 ?c3 ?c4 ?c5 ?_)
            case c0 => rfl
            case c2 => exact fun u hu => by rw [List.mem_singleton.1 hu]; rfl
            case c3 => unfold maxLen; omega
            case c4 => omega
            case c5 => have := HC.out.size; simp; omega
            · intro v' w4 hown' hgrow _
              have HO4 := Kp.mk hown'
              have HB4 : Kp (Below W1.heap.size W1 w4) := ⟨below_row_grown (HC.out.alloc HC.out.size _) (by have := HC.out.size; simp; omega) (ownsRow_below HO.out (more (Below.refl _ _) _)) hgrow⟩
              clear hown' hgrow
              go_wp2_with fail
              exact ⟨⟨j + 1, by omega, by (have := HKJ.out; congr 1; omega), ⟨by rw [HX1.out]; exact HO4.out⟩, HB4⟩, by have := HKJ.out; simp [intOf]; omega⟩
          · have hje : K = e := by omega
            have HO2 : Kp (wr.ownsRow W1.heap.size 5 1 u11 (pieceL bl sz i).length (bv (pieceL bl sz i))) := ⟨by
              rw [HPL.out, HEL.out]
              have h1 : j = e - kz := by omega
              have h2 := HO.out
              rw [List.take_of_length_le (by rw [HEL.out]; omega)] at h2
              rw [← h1]
              exact h2⟩
            have HD2 : Kp (DRow wr w.heap.size u9 l) := ⟨HD1.out.keep HC.out⟩
            have HB2 : Kp (Below w.heap.size w wr) := ⟨HB1.out.trans (HC.out.mono HB1.out.size)⟩
            have HBY : Kp (Bytes (pieceL bl sz i)) := ⟨by rw [HPL.out]; exact (H.out.bytes.take _).drop _⟩
            obtain ⟨ua, un, uc, rfl⟩ := row_shape HO2.out
            have HT2 : Kp (wr.ownsRow w.heap.size 5 1 (.slice ua un uc) (pieceL bl sz i).length (bv (pieceL bl sz i))) := ⟨row_mono HO2.out HB1.out.size⟩
            obtain ⟨pl, hpl⟩ : ∃ pl, pl = pieceL bl sz i := ⟨_, rfl⟩
            rw [← hpl] at HO2 HT2 HBY HPL
            have HPE := Kp.mk hpl
            clear HO HC HO2 hpl
            have hends : (¬ (K : Int) < (n : Int)) ∨ ((K : Int) < (n : Int) ∧ ¬ (K : Int) < (kz : Int) + (sz : Nat)) := by have := HE.out; omega
            have hbs := build44 id i m ua un uc wr
            have HRW : Kp ((wr.alloc (.cells #[.int .u32 id, .int .i64 i, .int .i64 m, .slice ua un uc] 109)).ownsRow w.heap.size 109 4 u9 l.length (rcells l)) := ⟨ownsRow_below HD2.out.r (more (Below.refl _ _) _)⟩
            have HPU : Kp (∀ v' w', w'.ownsRow w.heap.size 109 4 v' (l.length + 1) (rcells l ++ pcc ⟨id, i, m, .slice ua un uc, pl⟩) → (wr.alloc (.cells #[.int .u32 id, .int .i64 i, .int .i64 m, .slice ua un uc] 109)).grownBy w' u9.ownBlock → DRow w' w.heap.size v' (l ++ [⟨id, i, m, .slice ua un uc, pl⟩]) ∧ Below w.heap.size w w') := ⟨fun v' w' h1 h2 =>
              ⟨(HD2.out.keep (more (Below.refl _ _) _)).push (x := ⟨id, i, m, .slice ua un uc, pl⟩) h1 h2 ⟨ownsRow_below HT2.out (more (Below.refl _ _) _), HBY.out⟩, below_row_grown (HB2.out.alloc HB2.out.size _) (by have := HB2.out.size; simp; omega) HRW.out h2⟩⟩
            have HIL := Kp.mk hll
            have HSZ : Kp (w.heap.size ≤ wr.heap.size) := ⟨HB2.out.size⟩
            obtain ⟨xs4, hxs4⟩ : ∃ xs4, xs4 = rcells l := ⟨_, rfl⟩
            obtain ⟨ll, hllc⟩ : ∃ ll, ll = l.length := ⟨_, rfl⟩
            rw [← hxs4, ← hllc] at HRW HPU
            have HLL := Kp.mk hllc
            have hll33 : ll ≤ 32 := by omega
            clear hxs4 hllc hll
            rcases hends with hend | ⟨hend, hend2⟩
            all_goals
              go_wp2_with (first
                | (refine wpList_buildSlice_one rfl 105 1 (.tmp 76) rfl (.agg #[.int .u32 id, .int .i64 i, .int .i64 m, .slice ua un uc]) rfl _ _ hbs ?_)
                | (at_builtin; refine wpList_append_own2 rfl (.tmp 71) (.tmp 77) 105 rfl w.heap.size 109 i25 (.agg #[.int .u32 0, .int .i64 0, .int .i64 0, .slice none 0 0]) 4 48 Try.underlying105 hi25 hy0 hy1 hy2 rfl (by decide) u9 ll xs4 rfl HRW.out ⟨wr.heap.size, 0, none⟩ 1 1 (pcc ⟨id, i, m, .slice ua un uc, pl⟩) rfl ?c0 ?c1 ?c2 ?c3 ?c4 ?c5 ?_))
              case c0 => rfl
              case c1 => exact fun j u h => h
              case c2 => exact fun u hu => by simp [pcc] at hu; rcases hu with rfl | rfl | rfl | rfl <;> rfl
              case c3 => unfold maxLen; omega
              case c4 => omega
              case c5 => have := HSZ.out; simp; omega
              · intro v' w4 hown' hgrow _
                have HF := Kp.mk (HPU.out v' w4 hown' hgrow)
                clear hown' hgrow hbs
                go_wp2_with fail
                refine ⟨⟨i + 1, l ++ [⟨id, i, m, .slice ua un uc, pl⟩], by omega, by go_num, by simp [HIL.out], ⟨HF.out.1⟩, ⟨HF.out.2⟩, ⟨fun k x hx => ?_⟩⟩, by simp [intOf]; omega⟩
                rw [List.getElem?_append] at hx
                split at hx
                · exact HX.out k x hx
                · rename_i hkl
                  have hk0 : k = i := by
                    have h1 := (List.getElem?_eq_some_iff.1 hx).1
                    simp at h1
                    have := HIL.out
                    omega
                  subst hk0
                  have : k - l.length = 0 := by have := HIL.out; omega
                  rw [this] at hx
                  simp at hx
                  subst hx
                  exact ⟨rfl, rfl, rfl, HPE.out⟩
      · have hee : i = m := by omega
        have hle : ¬ (i : Int) < (m : Int) := by omega
        go_wp2_with fail
        exact bodyPost_ret (results_tmp2 rfl _ _ _) rfl ⟨_, l, rfl, HB.out, HD.out, by omega, HX.out⟩
end Go.Proofs.Ytioeaknhcfkfcaa

namespace Go.Proofs.Ytioeaknhcfkfcaa
open Go.RowKit

theorem manyN_is {n sz : Nat} (hs : 1 ≤ sz) : max (((n : Int) + sz - 1) / sz) 1 = ((manyN n sz : Nat) : Int) := by
  have h0 : ((n : Int) + sz - 1) / sz = (((n + sz - 1) / sz : Nat) : Int) := by
    rw [Int.natCast_ediv, Int.natCast_sub (by omega)]
    simp
  have h1 := Nat.div_add_mod n sz
  have h2 := Nat.mod_lt n (show sz > 0 by omega)
  have h3 : n + sz - 1 = sz * (n / sz) + (n % sz + sz - 1) := by omega
  have h4 : (n + sz - 1) / sz = n / sz + (n % sz + sz - 1) / sz := by rw [h3, Nat.mul_add_div (by omega)]
  have h5 : (n % sz + sz - 1) / sz = if n % sz = 0 then 0 else 1 := by
    split
    · exact Nat.div_eq_of_lt (by omega)
    · exact Nat.div_eq_of_lt_le (by omega) (by omega)
  rw [h0, h4, h5]
  unfold manyN
  clear h0 h1 h3 h4 h5
  generalize n / sz = q
  by_cases h6 : n % sz = 0
  · rw [if_pos h6]
    by_cases h7 : q = 0
    · rw [if_pos (.inr h7), h7]; decide
    · rw [if_neg (by simp [h6, h7])]; omega
  · rw [if_neg h6, if_pos (.inl h6)]; omega
theorem manyN_lt {n sz k : Nat} (hk : k < manyN n sz) : k * sz ≤ n := by
  unfold manyN at hk
  have h1 := Nat.div_mul_le_self n sz
  have : k ≤ n / sz := by generalize n / sz = q at *; split at hk <;> omega
  exact Nat.le_trans (Nat.mul_le_mul_right sz this) h1
theorem manyN_pos {n sz : Nat} : 0 < manyN n sz := by unfold manyN; generalize n / sz = q; split <;> omega
set_option maxHeartbeats 1000000 in
/-- Where there are no pieces, both say so alike. -/
theorem split_bad (id sz : Int) (a : Option Addr) (n cap : Nat) (w : World) (hn : n ≤ 20001) (h : sz < 1 ∨ 4096 < sz ∨ 16384 < n) :
    Calls Try.prog 41 #[.int .u32 id, .slice a n cap, .int .i64 sz] w fun r w' => r = .returned (.tuple #[.slice none 0 0, .int .i64 1]) ∧ w = w' := by
  have hc : (sz < 1) ∨ (¬ sz < 1 ∧ 4096 < sz) ∨ (¬ sz < 1 ∧ ¬ 4096 < sz ∧ (16384 : Int) < n) := by omega
  clear h
  rcases hc with h1 | ⟨h1, h2⟩ | ⟨h1, h2, h3⟩
  all_goals
    go_enter Try.func41, Try.ntmps41
    go_wp2_with fail
    exact bodyPost_ret (results_tmp2 rfl _ _ _) rfl ⟨rfl, rfl⟩
set_option maxHeartbeats 1000000 in
theorem rsplit_bad (id sz : Int) (a : Option Addr) (n cap : Nat) (w : World) (hn : n ≤ 20001) (h : sz < 1 ∨ 4096 < sz ∨ 16384 < n) :
    Calls Try.prog 43 #[.int .u32 id, .slice a n cap, .int .i64 sz] w fun r w' => r = .returned (.tuple #[.slice none 0 0, .int .i64 1]) ∧ w = w' := by
  have hc : (sz < 1) ∨ (¬ sz < 1 ∧ 4096 < sz) ∨ (¬ sz < 1 ∧ ¬ 4096 < sz ∧ (16384 : Int) < n) := by omega
  clear h
  rcases hc with h1 | ⟨h1, h2⟩ | ⟨h1, h2, h3⟩
  all_goals
    go_enter Try.func43, Try.ntmps43
    go_wp2_with fail
    exact bodyPost_ret (results_tmp2 rfl _ _ _) rfl ⟨rfl, rfl⟩
set_option maxHeartbeats 1000000 in
theorem split_many (id : Int) (sz n : Nat) (a : Option Addr) (cap : Nat) (w : World) (hs : 1 ≤ sz ∧ sz ≤ 4096) (hn : n ≤ 16384) (hm : 32 < manyN n sz) :
    Calls Try.prog 41 #[.int .u32 id, .slice a n cap, .int .i64 sz] w fun r w' => r = .returned (.tuple #[.slice none 0 0, .int .i64 8]) ∧ w = w' := by
  have h1 : ¬ (sz : Int) < 1 := by omega
  have h2 : ¬ (4096 : Int) < sz := by omega
  have h3 : ¬ (16384 : Int) < n := by omega
  have h4 := manyN_is (n := n) hs.1
  generalize manyN n sz = m at h4 hm
  have h5 : (32 : Int) < m := by omega
  have h0 : ¬ (sz : Int) = 0 := by omega
  go_enter Try.func41, Try.ntmps41
  go_wp2_with fail
  exact bodyPost_ret (results_tmp2 rfl _ _ _) rfl ⟨rfl, rfl⟩
set_option maxHeartbeats 1000000 in
theorem rsplit_many (id : Int) (sz n : Nat) (a : Option Addr) (cap : Nat) (w : World) (hs : 1 ≤ sz ∧ sz ≤ 4096) (hn : n ≤ 16384) (hm : 32 < manyN n sz) :
    Calls Try.prog 43 #[.int .u32 id, .slice a n cap, .int .i64 sz] w fun r w' => r = .returned (.tuple #[.slice none 0 0, .int .i64 8]) ∧ w = w' := by
  have hz1' : ¬ (sz : Int) < 1 := by omega
  have hz2' : ¬ (4096 : Int) < sz := by omega
  have hz3' : ¬ (16384 : Int) < n := by omega
  have hsz0 : ¬ (sz : Int) = 0 := by omega
  have hsz1 : ¬ (sz : Int) = -1 := by omega
  have hm2 : manyN n sz = if n % sz ≠ 0 ∨ n / sz = 0 then n / sz + 1 else n / sz := rfl
  obtain ⟨qt, hqt⟩ : ∃ qt, qt = n / sz := ⟨_, rfl⟩
  obtain ⟨rm, hrm⟩ : ∃ rm, rm = n % sz := ⟨_, rfl⟩
  have hq1 : (n : Int).tdiv sz = (qt : Nat) := by rw [hqt]; rfl
  have hr1 : (n : Int).tmod sz = (rm : Nat) := by rw [hrm]; rfl
  have hqb : qt ≤ 16384 := by rw [hqt]; exact Nat.le_trans (Nat.div_le_self _ _) hn
  rw [← hqt, ← hrm] at hm2
  rw [hm2] at hm
  have hc : (((rm : Int) != 0) = true ∧ (32 : Int) < (qt : Int) + 1) ∨ (((rm : Int) != 0) = false ∧ ((qt : Int) == 0) = false ∧ (32 : Int) < qt) := by
    by_cases h1 : rm = 0
    · by_cases h2 : qt = 0
      · rw [if_pos (.inr h2)] at hm; omega
      · rw [if_neg (by simp [h1, h2])] at hm
        exact .inr ⟨by simp [h1], by simp [h2], by omega⟩
    · rw [if_pos (.inl h1)] at hm
      exact .inl ⟨by simp [h1], by omega⟩
  clear hm hm2 hqt hrm
  rcases hc with ⟨h1, h2⟩ | ⟨h1, h2, h3⟩
  all_goals
    go_enter Try.func43, Try.ntmps43
    go_wp2_with fail
    exact bodyPost_ret (results_tmp2 rfl _ _ _) rfl ⟨rfl, rfl⟩
end Go.Proofs.Ytioeaknhcfkfcaa

namespace Go.Proofs.Ytioeaknhcfkfcaa
open Go.RowKit

theorem clone_anyF (M : Nat) (v : Value) (l : List Int) (w : World) (h : HoldsB w M v l) (hr : l.length ≤ 140737488351232) :
    Calls Try.prog 40 #[v] w fun r w' => ∃ v', r = .returned v' ∧ w'.ownsRow w.heap.size 5 1 v' l.length (bv l) ∧ Below w.heap.size w w' := clone_any M v l w h hr
end Go.Proofs.Ytioeaknhcfkfcaa

namespace Go.Proofs.Ytioeaknhcfkfcaa
open Go.RowKit

abbrev outObj (v : Value) (f : Bool) : Obj := .cells #[v, .bool f] 118
/-- In block O stands an Out that has laid the bytes l. -/
structure OutIs (w : World) (O : Nat) (v : Value) (l : List Int) (f : Bool) : Prop where
  blk : Blk w O (outObj v f)
  row : w.ownsRow (O + 1) 5 1 v l.length (bv l)
  bytes : Bytes l
/-- What a call on Out makes of it; all else is as it was. -/
structure OutStep (O : Nat) (v v' : Value) (l : List Int) (f : Bool) (w w' : World) : Prop where
  is : OutIs w' O v' l f
  os : w'.os = w.os
  tape : w'.tape = w.tape
  output : w'.output = w.output
  size : w.heap.size ≤ w'.heap.size
  other : ∀ k, k < w.heap.size → k ≠ O → v.ownBlock ≠ some k → w'.heap[k]? = w.heap[k]?
  own : ∀ k, v'.ownBlock = some k → v.ownBlock = some k ∨ w.heap.size ≤ k
theorem OutIs.keep {w w' : World} {O : Nat} {v : Value} {l : List Int} {f : Bool} (h : OutIs w O v l f) (hb : Below w.heap.size w w') : OutIs w' O v l f :=
  ⟨h.blk.keep hb, ownsRow_below h.row hb, h.bytes⟩
theorem OutIs.shape {w : World} {O : Nat} {v : Value} {l : List Int} {f : Bool} (h : OutIs w O v l f) : ∃ a n cap, v = .slice a n cap := by
  rcases h.row.2 with ⟨rfl, _⟩ | ⟨g, cap, cur, rfl, _⟩ <;> exact ⟨_, _, _, rfl⟩
theorem OutIs.holds {w : World} {O : Nat} {v : Value} {l : List Int} {f : Bool} (h : OutIs w O v l f) : HoldsB w w.heap.size v l := HoldsB.ofRow h.bytes h.row
theorem OutStep.below {w w' : World} {O : Nat} {v : Value} {l : List Int} {f : Bool} (h : OutIs w O v l f) (hb : Below w.heap.size w w') : OutStep O v v l f w w' :=
  ⟨h.keep hb, hb.os, hb.tape, hb.output, hb.size, fun k hk _ _ => hb.block k hk, fun k hk => .inl hk⟩
theorem OutStep.trans {w w1 w2 : World} {O : Nat} {v v1 v2 : Value} {l l2 : List Int} {f f2 : Bool} (h : OutStep O v v1 l f w w1) (k : OutStep O v1 v2 l2 f2 w1 w2) : OutStep O v v2 l2 f2 w w2 :=
  ⟨k.is, k.os.trans h.os, k.tape.trans h.tape, k.output.trans h.output, Nat.le_trans h.size k.size,
    fun i hi hO hv => (k.other i (Nat.lt_of_lt_of_le hi h.size) hO (fun e => by rcases h.own i e with h | h; exact hv h; omega)).trans (h.other i hi hO hv),
    fun i hi => by
      rcases k.own i hi with h1 | h1
      · exact h.own i h1
      · exact .inr (Nat.le_trans h.size h1)⟩
theorem OutStep.more {w w1 w2 : World} {O : Nat} {v v1 : Value} {l : List Int} {f : Bool} (h : OutStep O v v1 l f w w1) (hb : Below w1.heap.size w1 w2) : OutStep O v v1 l f w w2 := h.trans (OutStep.below h.is hb)
theorem OutStep.ahead {w w1 w2 : World} {O : Nat} {v v1 : Value} {l l0 : List Int} {f f0 : Bool} (h0 : OutIs w O v l0 f0) (hb : Below w.heap.size w w1) (h : OutStep O v v1 l f w1 w2) : OutStep O v v1 l f w w2 := (OutStep.below h0 hb).trans h
/-- A block that is neither the Out's nor its row's. -/
theorem OutStep.keep {w w1 : World} {O b : Nat} {v v1 : Value} {l : List Int} {f : Bool} {o : Obj} (h : OutStep O v v1 l f w w1) (hb : Blk w b o) (hO : b ≠ O) (hv : v.ownBlock ≠ some b) : Blk w1 b o := (h.other b hb.lt hO hv).trans hb

/-- append to a row of the call's own, and in which block what comes of it lies. -/
theorem wpList_append_own2F {P : Program} {w : World} {ops : Array Oper} {rest : List Oper} {o : Oper} {a : Act} {Q : Exit → Act → World → Prop} (hgd : o.guard = none) (s x : Operand) (t : TypeId)
    (ho : o.op = .call { callee := .builtin .append, args := #[s, x], argTypes := #[t, t] })
    (base : Nat) (e : TypeId) (i : TypeInfo) (z : Value) (size bytes : Nat) (ht : P.underlying t = some (.slice e)) (hi : P.info? e = some i) (hz : i.zero = some z)
    (hsize : i.size = size) (hby : i.bytes = bytes) (hzs : z.cells.size = size) (hsz : 0 < size)
    (v : Value) (n : Nat) (xs : List Value) (hs : a.eval s = v) (hown : w.ownsRow base e size v n xs)
    (ad : Addr) (m c : Nat) (news : List Value) (hx : a.eval x = .slice (some ad) m c) (hl : news.length = m * size) (hnews : ∀ j u, news[j]? = some u → w.cell? (ad.add j) = some u) (h1 : ∀ u ∈ news, u.oneCell' = true)
    (h63 : n + m ≤ maxLen) (hbytes : (n + m) * bytes ≤ 140737488355328) (hbase : base ≤ w.heap.size)
    (h : ∀ v' w', w'.ownsRow base e size v' (n + m) (xs ++ news) → w.grownBy w' v.ownBlock → (∀ k, v'.ownBlock = some k → v.ownBlock = some k ∨ w.heap.size ≤ k) → wpList P ops Q rest (a.put o.dst v') w') : wpList P ops Q (o :: rest) a w := by
  have hv := hown.2
  rcases hv with ⟨hv, h0⟩ | ⟨g, cap, cur, hv, hg, hh, hn, hc, hsz2, htk⟩
  · subst h0
    have hxs : xs = [] := List.eq_nil_of_length_eq_zero (by simpa using hown.1)
    subst hxs
    refine wpList_plain hgd fun K hK => ?_
    rw [hv] at hs
    obtain ⟨v', w', hrun, r1, r2, _⟩ := run_append_own (P := P) w w.heap.size t o.type e i z size bytes ht hi hz hsize hby hzs hsz (.slice none 0 0) 0 [] (World.ownsRow_nil w _ e size) ad m c news hl hnews h1 h63 hbytes (Nat.le_refl _)
    unfold Oper.wp
    simp [execOp, ho, resolve, invoke, builtin, hs, hx, hrun, Result.andThen]
    refine hK _ _ (h v' w' (ownsRow_base r1 hbase) (by rw [hv]; exact r2) fun k hk => .inr (r1.lt k hk).1)
  · subst hv
    by_cases hroom : n + m ≤ cap
    · refine wpList_append_fits w hgd s x t ho base e i size ht hi hsize g n cap xs hs hown ad m c news hx hl hnews h1 hroom fun w' h2 h3 => ?_
      exact h _ w' h2 h3 fun k hk => .inl hk
    · refine wpList_append_grows w hgd s x t ho e i z size bytes ht hi hz hsize hby hzs hsz (some ⟨g, 0, none⟩) n cap xs hs (fun e => by cases e) hown.1 (fun b hb => by cases hb; exact hown.cells rfl) ad m c news hx hl hnews h1 (by omega) h63 hbytes fun v' w' h2 h3 => ?_
      exact h v' w' (ownsRow_base h2 hbase) ⟨h3.os, h3.tape, h3.output, h3.size, fun k hk _ => h3.block k hk (by simp)⟩ fun k hk => .inr (h2.lt k hk).1

def putL (l p : List Int) (f : Bool) : List Int := if f then l else l ++ p

set_option maxRecDepth 100000 in
set_option maxHeartbeats 1600000 in
theorem put_any (O M : Nat) (v s : Value) (l p : List Int) (f : Bool) (w : World) (h : OutIs w O v l f) (hs : HoldsB w M s p) (hlen : l.length + p.length ≤ 1099511627776) :
    Calls Try.prog 69 #[.pointer (some ⟨O, 0, none⟩), s] w fun r w' => r = .returned (.tuple #[]) ∧ ∃ v', OutStep O v v' (putL l p f) f w w' := by
  have H := Lib.hid h
  have HS := Lib.hid hs
  obtain ⟨c0, c1, f0, f1⟩ := h.blk.two
  have lO := h.blk.lt
  obtain ⟨i0, hi, hz0, hz1, hz2⟩ := info_parts info5
  obtain ⟨a, n, cap, rfl, hn⟩ := hs.slice
  have HN := Lib.hid hn
  have hln : l.length + n ≤ 1099511627776 := by omega
  clear h hs hn hlen
  cases f with
  | true =>
    have HP : Hid (OutStep O v v (putL l p true) true w w) := OutStep.below H.out (Below.refl _ _)
    go_enter Try.func69, Try.ntmps69
    go_wp2_with fail
    go_end0
    exact ⟨rfl, _, HP.out⟩
  | false =>
    cases a with
    | none =>
      have hp0 : Hid (p = []) := by
        obtain ⟨a', cap', h1, h2, h3, h4, h5, h6, h7⟩ := HS.out
        simp only [Value.slice.injEq] at h1
        have := h4 h1.1.symm
        exact List.length_eq_zero_iff.1 (by omega)
      have hc0 : n = 0 ∧ cap = 0 := by
        obtain ⟨a', cap', h1, h2, h3, h4, h5, h6, h7⟩ := HS.out
        simp only [Value.slice.injEq] at h1
        have := h4 h1.1.symm
        omega
      obtain ⟨rfl, rfl⟩ := hc0
      obtain ⟨av, nv, cv, rfl⟩ := H.out.shape
      have hT : Turn O (outObj (.slice av nv cv) false) w (w.setCell ⟨O, 0, none⟩ (.slice av nv cv)) := ((Turn.same H.out.blk).set 0 _).as rfl
      have HT := Lib.hid hT
      clear hT
      go_enter Try.func69, Try.ntmps69
      go_wp2_with (at_builtin; refine wpList_append_own_none rfl _ _ 39 rfl (O + 1) 5 i0 1 Try.underlying39 hi _ _ _ rfl H.out.row rfl ?_)
      go_end0
      have hT := HT.out
      refine ⟨rfl, _, ⟨hT.blk, ?_, ?_⟩, hT.os, hT.tape, hT.output, hT.size, fun k hk hO _ => hT.other k hk hO, fun k hk => .inl hk⟩
      · have := ownsRow_turn H.out.row hT (Nat.lt_succ_self O)
        unfold putL
        rw [hp0.out]
        simpa using this
      · unfold putL
        rw [hp0.out]
        simpa using H.out.bytes
    | some ad =>
      go_enter Try.func69, Try.ntmps69
      go_wp2_with (at_builtin; refine wpList_append_own2F rfl _ _ 39 rfl (O + 1) 5 i0 (.int .u8 0) 1 1 Try.underlying39 hi hz0 hz1 hz2 rfl (by decide) _ _ _ rfl H.out.row ad n cap (bv p) rfl ?c0 HS.out.news ?c2 ?c3 ?c4 ?c5 ?_)
      case c0 => rw [bv_len, HN.out]
      case c2 => exact bv_one _
      case c3 => unfold maxLen; omega
      case c4 => omega
      case c5 => omega
      · intro v' w2 hown' hgrow how
        have HOW := Lib.hid how
        have HO2 := Lib.hid hown'
        have HG2 := Lib.hid hgrow
        have hvO : v.ownBlock ≠ some O := fun e => by have := (H.out.row.lt O e).1; omega
        have hB2 : Blk w2 O (outObj v false) := (hgrow.block O lO (fun e => hvO e.symm)).trans H.out.blk
        obtain ⟨d0, d1, g0, g1⟩ := hB2.two
        have lO2 := hB2.lt
        have hsh : ∃ av nv cv, v' = .slice av nv cv := by
          rcases hown'.2 with ⟨rfl, _⟩ | ⟨g, cap, cur, rfl, _⟩ <;> exact ⟨_, _, _, rfl⟩
        obtain ⟨av, nv, cv, rfl⟩ := hsh
        have HB2 := Lib.hid hB2
        have HVO := Lib.hid hvO
        clear hown' hgrow how c0 c1 f0 f1 lO hB2 hvO
        go_wp2_with fail
        go_end0
        have hT : Turn O (outObj (.slice av nv cv) false) w2 (w2.setCell ⟨O, 0, none⟩ (.slice av nv cv)) := ((Turn.same HB2.out).set 0 _).as rfl
        have hrow : (w2.setCell ⟨O, 0, none⟩ (.slice av nv cv)).ownsRow (O + 1) 5 1 (.slice av nv cv) (l ++ p).length (bv (l ++ p)) := by
          have := ownsRow_turn HO2.out hT (Nat.lt_succ_self O)
          rw [List.length_append, ← HN.out]
          unfold bv
          rw [List.map_append]
          exact this
        refine ⟨rfl, .slice av nv cv, ⟨hT.blk, hrow, H.out.bytes.append HS.out.bytes⟩, hT.os.trans HG2.out.os, hT.tape.trans HG2.out.tape, hT.output.trans HG2.out.output, Nat.le_trans HG2.out.size hT.size,
          fun k hk hO hv => (hT.other k (Nat.lt_of_lt_of_le hk HG2.out.size) hO).trans (HG2.out.block k hk (fun e => hv e.symm)), HOW.out⟩
end Go.Proofs.Ytioeaknhcfkfcaa

namespace Go.Proofs.Ytioeaknhcfkfcaa
open Go.RowKit

set_option maxHeartbeats 800000 in
theorem giveUp_any (O : Nat) (v : Value) (l : List Int) (f : Bool) (w : World) (h : OutIs w O v l f) :
    Calls Try.prog 68 #[.pointer (some ⟨O, 0, none⟩)] w fun r w' => r = .returned (.tuple #[]) ∧ OutStep O v (.slice none 0 0) [] true w w' := by
  have H := Lib.hid h
  obtain ⟨c0, c1, f0, f1⟩ := h.blk.two
  have lO := h.blk.lt
  obtain ⟨a, n, cap, rfl⟩ := h.shape
  clear h
  go_enter Try.func68, Try.ntmps68
  go_wp2_with fail
  go_end0
  have hT : Turn O (outObj (.slice none 0 0) true) w ((w.setCell ⟨O, 0, none⟩ (.slice none 0 0)).setCell ⟨O, 1, none⟩ (.bool true)) := (((Turn.same H.out.blk).set 0 _).set 1 _).as rfl
  exact ⟨rfl, ⟨hT.blk, World.ownsRow_nil _ _ _ _, Bytes.nil⟩, hT.os, hT.tape, hT.output, hT.size, fun k hk hO _ => hT.other k hk hO, fun k hk => by simp [Value.ownBlock] at hk⟩

/-- A number's bytes, the highest first. -/
def digs (n : Int) (k : Nat) : List Int := (List.range k).map fun i => n / 256 ^ (k - 1 - i) % 256
theorem digs_len (n : Int) (k : Nat) : (digs n k).length = k := by simp [digs]
theorem digs_bytes (n : Int) (k : Nat) : Bytes (digs n k) := by
  intro x hx
  unfold digs at hx
  obtain ⟨i, _, rfl⟩ := List.mem_map.1 hx
  omega
theorem digs_take {n : Int} {k i : Nat} (h : i < k) : (digs n k).take (i + 1) = (digs n k).take i ++ [n / 256 ^ (k - 1 - i) % 256] := by
  have hl : i < (digs n k).length := by rw [digs_len]; exact h
  rw [List.take_succ_eq_append_getElem hl]
  simp [digs]
def numL (l : List Int) (f : Bool) (n : Int) (k : Nat) : List Int := if 256 ^ k ≤ n then [] else if f then l else l ++ digs n k
def numF (f : Bool) (n : Int) (k : Nat) : Bool := f || decide (256 ^ k ≤ n)
theorem wrap_u8 (a : Int) : IntKind.u8.wrap a = a % 256 := by simp [IntKind.wrap, IntKind.bits, IntKind.signed]
/-- One byte in a new block. -/
theorem HoldsB.one (w : World) (x : Int) (h0 : 0 ≤ x) (h1 : x ≤ 255) : HoldsB (w.alloc (.cells #[.int .u8 x] 5)) (w.heap.size + 1) (.slice (some ⟨w.heap.size, 0, none⟩) 1 1) [x] := by
  refine ⟨_, 1, rfl, Nat.le_refl _, by unfold maxLen; omega, (fun e => by cases e), (fun y hy _ => by cases hy; exact ⟨rfl, Nat.lt_succ_self _, by simp⟩), (fun y i hy hi => ?_), fun y hy => by simp at hy; omega⟩
  cases hy
  simp at hi
  subst hi
  exact (Blk.new w (.cells #[.int .u8 x] 5)).cell 0
def NumPost (O : Nat) (v : Value) (l : List Int) (f : Bool) (n : Int) (k : Nat) (w : World) (r : Ending) (w' : World) : Prop := r = .returned (.tuple #[]) ∧ ∃ v', OutStep O v v' (numL l f n k) (numF f n k) w w'
/-- Behind i bytes. -/
def partL (l : List Int) (f : Bool) (n : Int) (k i : Nat) : List Int := if f then l else l ++ (digs n k).take i
theorem partL_step {l : List Int} {f : Bool} {n : Int} {k i : Nat} (h : i < k) {x : Int} (hx : x = n / 256 ^ (k - 1 - i) % 256) : putL (partL l f n k i) [x] f = partL l f n k (i + 1) := by
  unfold putL partL
  cases f
  · simp only [Bool.false_eq_true, if_false]
    rw [digs_take h, hx, List.append_assoc]
  · rfl
theorem partL_len (l : List Int) (f : Bool) (n : Int) (k i : Nat) : (partL l f n k i).length ≤ l.length + k := by
  unfold partL
  split
  · omega
  · rw [List.length_append, List.length_take, digs_len]; omega
theorem partL_all (l : List Int) (f : Bool) (n : Int) (k : Nat) (h : ¬ 256 ^ k ≤ n) : partL l f n k k = numL l f n k := by
  unfold partL numL
  rw [if_neg h, List.take_of_length_le (by rw [digs_len]; omega)]
theorem partL_none (l : List Int) (f : Bool) (n : Int) (k : Nat) : partL l f n k 0 = l := by
  unfold partL
  split <;> simp

set_option maxHeartbeats 3200000 in
theorem number_2 (O : Nat) (v : Value) (l : List Int) (f : Bool) (n : Int) (w : World) (h : OutIs w O v l f) (hn0 : 0 ≤ n) (hn1 : n < 18446744073709551616) (hlen : l.length ≤ 1000000000000) :
    Calls Try.prog 50 #[.pointer (some ⟨O, 0, none⟩), .int .u64 n, .int .i64 2] w (NumPost O v l f n 2 w) := by
  have H := Lib.hid h
  clear h
  by_cases hbig : 65536 ≤ n
  · have hl : Hid (numL l f n 2 = [] ∧ numF f n 2 = true) := by
      unfold Hid numL numF
      rw [if_pos (by simpa using hbig)]
      exact ⟨rfl, by simp; right; simpa using hbig⟩
    have t0 : (n / 65536 == 0) = false := by simp; omega
    have t0' : (n / 65536 != 0) = true := by simp; omega
    clear hbig
    go_enter Try.func50, Try.ntmps50
    go_wp2_with fail
    refine (giveUp_any O v l f _ H.out).mono ?_
    rintro r w1 ⟨rfl, h1⟩
    have H1 := Lib.hid h1
    clear h1
    go_wp2_with fail
    go_end0
    exact ⟨rfl, _, by rw [hl.out.1, hl.out.2]; exact H1.out⟩
  · have hl : Hid (partL l f n 2 2 = numL l f n 2 ∧ numF f n 2 = f) := by
      refine ⟨partL_all l f n 2 (by simpa using hbig), ?_⟩
      unfold numF
      rw [decide_eq_false (by simpa using hbig), Bool.or_false]
    have t0 : (n / 65536 == 0) = true := by simp; omega
    have t0' : (n / 65536 != 0) = false := by simp; omega
    go_enter Try.func50, Try.ntmps50
    go_wp2_with fail
    have HST := Lib.hid (OutStep.below H.out (Below.refl _ w))
    go_loopw [6] (fun c wr => ∃ i : Nat, ∃ vr, i ≤ 2 ∧ c = .int .i64 ((2 : Int) - 1 - i) ∧ OutStep O v vr (partL l f n 2 i) f w wr) (fun c _ => (intOf c + 1).toNat)
    case atStart => exact ⟨0, v, by omega, rfl, by rw [partL_none]; exact HST.out⟩
    case round =>
      obtain ⟨i, vr, hi, rfl, hst⟩ := hrel
      have HSR := Lib.hid hst
      clear hst
      have hcs : i = 0 ∨ i = 1 ∨ i = 2 := by omega
      rcases hcs with rfl | rfl | rfl
      · have hx : Hid (n / 256 = n / 256 ^ (2 - 1 - 0) % 256) := by unfold Hid; simp; omega
        have hx0 : 0 ≤ n / 256 ∧ n / 256 ≤ 255 := by omega
        have HX0 := Lib.hid hx0
        clear hx0
        go_wp2_with fail
        generalize hxe : n / 256 = x at hx HX0 ⊢
        refine (put_any O _ vr _ _ [x] f _ (HSR.out.is.keep (more (Below.refl _ _) _)) (HoldsB.one wr x HX0.out.1 HX0.out.2) (by have := partL_len l f n 2 0; simp; omega)).mono ?_
        rintro r w2 ⟨rfl, v2, h2⟩
        have H2 := Lib.hid h2
        clear h2
        go_wp2_with fail
        exact ⟨⟨1, v2, by omega, by go_num, by have := HSR.out.trans (OutStep.ahead HSR.out.is (more (Below.refl _ _) _) H2.out); rw [partL_step (by omega) hx.out] at this; exact this⟩, by simp [intOf]⟩
      · have hx : Hid (n % 256 = n / 256 ^ (2 - 1 - 1) % 256) := by unfold Hid; simp
        have hx0 : 0 ≤ n % 256 ∧ n % 256 ≤ 255 := by omega
        have HX0 := Lib.hid hx0
        clear hx0
        go_wp2_with fail
        generalize n % 256 = x at hx HX0 ⊢
        refine (put_any O _ vr _ _ [x] f _ (HSR.out.is.keep (more (Below.refl _ _) _)) (HoldsB.one wr x HX0.out.1 HX0.out.2) (by have := partL_len l f n 2 1; simp; omega)).mono ?_
        rintro r w2 ⟨rfl, v2, h2⟩
        have H2 := Lib.hid h2
        clear h2
        go_wp2_with fail
        exact ⟨⟨2, v2, by omega, by go_num, by have := HSR.out.trans (OutStep.ahead HSR.out.is (more (Below.refl _ _) _) H2.out); rw [partL_step (by omega) hx.out] at this; exact this⟩, by simp [intOf]⟩
      · go_wp2_with fail
        go_end0
        exact ⟨rfl, vr, by rw [← hl.out.1, hl.out.2]; exact HSR.out⟩
end Go.Proofs.Ytioeaknhcfkfcaa

namespace Go.Proofs.Ytioeaknhcfkfcaa
open Go.RowKit

set_option maxHeartbeats 6400000 in
theorem number_1 (O : Nat) (v : Value) (l : List Int) (f : Bool) (n : Int) (w : World) (h : OutIs w O v l f) (hn0 : 0 ≤ n) (hn1 : n < 18446744073709551616) (hlen : l.length ≤ 1000000000000) :
    Calls Try.prog 50 #[.pointer (some ⟨O, 0, none⟩), .int .u64 n, .int .i64 1] w (NumPost O v l f n 1 w) := by
  have H := Lib.hid h
  clear h
  by_cases hbig : 256 ≤ n
  · have hl : Hid (numL l f n 1 = [] ∧ numF f n 1 = true) := by
      unfold Hid numL numF
      rw [if_pos (by simpa using hbig)]
      exact ⟨rfl, by simp; right; simpa using hbig⟩
    have t0 : (n / 256 == 0) = false := by simp; omega
    have t0' : (n / 256 != 0) = true := by simp; omega
    clear hbig
    go_enter Try.func50, Try.ntmps50
    go_wp2_with fail
    refine (giveUp_any O v l f _ H.out).mono ?_
    rintro r w1 ⟨rfl, h1⟩
    have H1 := Lib.hid h1
    clear h1
    go_wp2_with fail
    go_end0
    exact ⟨rfl, _, by rw [hl.out.1, hl.out.2]; exact H1.out⟩
  · have hl : Hid (partL l f n 1 1 = numL l f n 1 ∧ numF f n 1 = f) := by
      refine ⟨partL_all l f n 1 (by simpa using hbig), ?_⟩
      unfold numF
      rw [decide_eq_false (by simpa using hbig), Bool.or_false]
    have t0 : (n / 256 == 0) = true := by simp; omega
    have t0' : (n / 256 != 0) = false := by simp; omega
    go_enter Try.func50, Try.ntmps50
    go_wp2_with fail
    have HST := Lib.hid (OutStep.below H.out (Below.refl _ w))
    go_loopw [6] (fun c wr => ∃ i : Nat, ∃ vr, i ≤ 1 ∧ c = .int .i64 ((1 : Int) - 1 - i) ∧ OutStep O v vr (partL l f n 1 i) f w wr) (fun c _ => (intOf c + 1).toNat)
    case atStart => exact ⟨0, v, by omega, rfl, by rw [partL_none]; exact HST.out⟩
    case round =>
      obtain ⟨i, vr, hi, rfl, hst⟩ := hrel
      have HSR := Lib.hid hst
      clear hst
      have hcs : i = 0 ∨ i = 1 := by omega
      rcases hcs with rfl | rfl
      · have hx : Hid (n = n / 256 ^ (1 - 1 - 0) % 256) := by unfold Hid; simp; omega
        have hx0 : 0 ≤ n ∧ n ≤ 255 := by omega
        have HX0 := Lib.hid hx0
        clear hx0
        go_wp2_with fail
        refine (put_any O _ vr _ _ [n] f _ (HSR.out.is.keep (more (Below.refl _ _) _)) (HoldsB.one wr n HX0.out.1 HX0.out.2) (by have := partL_len l f n 1 0; simp; omega)).mono ?_
        rintro r w2 ⟨rfl, v2, h2⟩
        have H2 := Lib.hid h2
        clear h2
        go_wp2_with fail
        exact ⟨⟨1, v2, by omega, by go_num, by have := HSR.out.trans (OutStep.ahead HSR.out.is (more (Below.refl _ _) _) H2.out); rw [partL_step (by omega) hx.out] at this; exact this⟩, by simp [intOf]⟩
      · go_wp2_with fail
        go_end0
        exact ⟨rfl, vr, by rw [← hl.out.1, hl.out.2]; exact HSR.out⟩

set_option maxHeartbeats 6400000 in
theorem number_4 (O : Nat) (v : Value) (l : List Int) (f : Bool) (n : Int) (w : World) (h : OutIs w O v l f) (hn0 : 0 ≤ n) (hn1 : n < 18446744073709551616) (hlen : l.length ≤ 1000000000000) :
    Calls Try.prog 50 #[.pointer (some ⟨O, 0, none⟩), .int .u64 n, .int .i64 4] w (NumPost O v l f n 4 w) := by
  have H := Lib.hid h
  clear h
  by_cases hbig : 4294967296 ≤ n
  · have hl : Hid (numL l f n 4 = [] ∧ numF f n 4 = true) := by
      unfold Hid numL numF
      rw [if_pos (by simpa using hbig)]
      exact ⟨rfl, by simp; right; simpa using hbig⟩
    have t0 : (n / 4294967296 == 0) = false := by simp; omega
    have t0' : (n / 4294967296 != 0) = true := by simp; omega
    clear hbig
    go_enter Try.func50, Try.ntmps50
    go_wp2_with fail
    refine (giveUp_any O v l f _ H.out).mono ?_
    rintro r w1 ⟨rfl, h1⟩
    have H1 := Lib.hid h1
    clear h1
    go_wp2_with fail
    go_end0
    exact ⟨rfl, _, by rw [hl.out.1, hl.out.2]; exact H1.out⟩
  · have hl : Hid (partL l f n 4 4 = numL l f n 4 ∧ numF f n 4 = f) := by
      refine ⟨partL_all l f n 4 (by simpa using hbig), ?_⟩
      unfold numF
      rw [decide_eq_false (by simpa using hbig), Bool.or_false]
    have t0 : (n / 4294967296 == 0) = true := by simp; omega
    have t0' : (n / 4294967296 != 0) = false := by simp; omega
    go_enter Try.func50, Try.ntmps50
    go_wp2_with fail
    have HST := Lib.hid (OutStep.below H.out (Below.refl _ w))
    go_loopw [6] (fun c wr => ∃ i : Nat, ∃ vr, i ≤ 4 ∧ c = .int .i64 ((4 : Int) - 1 - i) ∧ OutStep O v vr (partL l f n 4 i) f w wr) (fun c _ => (intOf c + 1).toNat)
    case atStart => exact ⟨0, v, by omega, rfl, by rw [partL_none]; exact HST.out⟩
    case round =>
      obtain ⟨i, vr, hi, rfl, hst⟩ := hrel
      have HSR := Lib.hid hst
      clear hst
      have hcs : i = 0 ∨ i = 1 ∨ i = 2 ∨ i = 3 ∨ i = 4 := by omega
      rcases hcs with rfl | rfl | rfl | rfl | rfl
      · have hx : Hid (n / 16777216 = n / 256 ^ (4 - 1 - 0) % 256) := by unfold Hid; simp; omega
        have hx0 : 0 ≤ n / 16777216 ∧ n / 16777216 ≤ 255 := by omega
        have HX0 := Lib.hid hx0
        clear hx0
        go_wp2_with fail
        generalize hxe : n / 16777216 = x at hx HX0 ⊢
        refine (put_any O _ vr _ _ [x] f _ (HSR.out.is.keep (more (Below.refl _ _) _)) (HoldsB.one wr x HX0.out.1 HX0.out.2) (by have := partL_len l f n 4 0; simp; omega)).mono ?_
        rintro r w2 ⟨rfl, v2, h2⟩
        have H2 := Lib.hid h2
        clear h2
        go_wp2_with fail
        exact ⟨⟨1, v2, by omega, by go_num, by have := HSR.out.trans (OutStep.ahead HSR.out.is (more (Below.refl _ _) _) H2.out); rw [partL_step (by omega) hx.out] at this; exact this⟩, by simp [intOf]⟩
      · have hx : Hid (n / 65536 % 256 = n / 256 ^ (4 - 1 - 1) % 256) := by unfold Hid; simp
        have hx0 : 0 ≤ n / 65536 % 256 ∧ n / 65536 % 256 ≤ 255 := by omega
        have HX0 := Lib.hid hx0
        clear hx0
        go_wp2_with fail
        generalize hxe : n / 65536 % 256 = x at hx HX0 ⊢
        refine (put_any O _ vr _ _ [x] f _ (HSR.out.is.keep (more (Below.refl _ _) _)) (HoldsB.one wr x HX0.out.1 HX0.out.2) (by have := partL_len l f n 4 1; simp; omega)).mono ?_
        rintro r w2 ⟨rfl, v2, h2⟩
        have H2 := Lib.hid h2
        clear h2
        go_wp2_with fail
        exact ⟨⟨2, v2, by omega, by go_num, by have := HSR.out.trans (OutStep.ahead HSR.out.is (more (Below.refl _ _) _) H2.out); rw [partL_step (by omega) hx.out] at this; exact this⟩, by simp [intOf]⟩
      · have hx : Hid (n / 256 % 256 = n / 256 ^ (4 - 1 - 2) % 256) := by unfold Hid; simp
        have hx0 : 0 ≤ n / 256 % 256 ∧ n / 256 % 256 ≤ 255 := by omega
        have HX0 := Lib.hid hx0
        clear hx0
        go_wp2_with fail
        generalize hxe : n / 256 % 256 = x at hx HX0 ⊢
        refine (put_any O _ vr _ _ [x] f _ (HSR.out.is.keep (more (Below.refl _ _) _)) (HoldsB.one wr x HX0.out.1 HX0.out.2) (by have := partL_len l f n 4 2; simp; omega)).mono ?_
        rintro r w2 ⟨rfl, v2, h2⟩
        have H2 := Lib.hid h2
        clear h2
        go_wp2_with fail
        exact ⟨⟨3, v2, by omega, by go_num, by have := HSR.out.trans (OutStep.ahead HSR.out.is (more (Below.refl _ _) _) H2.out); rw [partL_step (by omega) hx.out] at this; exact this⟩, by simp [intOf]⟩
      · have hx : Hid (n % 256 = n / 256 ^ (4 - 1 - 3) % 256) := by unfold Hid; simp
        have hx0 : 0 ≤ n % 256 ∧ n % 256 ≤ 255 := by omega
        have HX0 := Lib.hid hx0
        clear hx0
        go_wp2_with fail
        generalize hxe : n % 256 = x at hx HX0 ⊢
        refine (put_any O _ vr _ _ [x] f _ (HSR.out.is.keep (more (Below.refl _ _) _)) (HoldsB.one wr x HX0.out.1 HX0.out.2) (by have := partL_len l f n 4 3; simp; omega)).mono ?_
        rintro r w2 ⟨rfl, v2, h2⟩
        have H2 := Lib.hid h2
        clear h2
        go_wp2_with fail
        exact ⟨⟨4, v2, by omega, by go_num, by have := HSR.out.trans (OutStep.ahead HSR.out.is (more (Below.refl _ _) _) H2.out); rw [partL_step (by omega) hx.out] at this; exact this⟩, by simp [intOf]⟩
      · go_wp2_with fail
        go_end0
        exact ⟨rfl, vr, by rw [← hl.out.1, hl.out.2]; exact HSR.out⟩

set_option maxHeartbeats 6400000 in
theorem number_8 (O : Nat) (v : Value) (l : List Int) (f : Bool) (n : Int) (w : World) (h : OutIs w O v l f) (hn0 : 0 ≤ n) (hn1 : n < 18446744073709551616) (hlen : l.length ≤ 1000000000000) :
    Calls Try.prog 50 #[.pointer (some ⟨O, 0, none⟩), .int .u64 n, .int .i64 8] w (NumPost O v l f n 8 w) := by
  have H := Lib.hid h
  clear h
  have hbig : ¬ (18446744073709551616 : Int) ≤ n := by omega
  have hl : Hid (partL l f n 8 8 = numL l f n 8 ∧ numF f n 8 = f) := by
    refine ⟨partL_all l f n 8 (by simpa using hbig), ?_⟩
    unfold numF
    rw [decide_eq_false (by simpa using hbig), Bool.or_false]
  have t0 : (n / 18446744073709551616 == 0) = true := by simp; omega
  have t0' : (n / 18446744073709551616 != 0) = false := by simp; omega
  go_enter Try.func50, Try.ntmps50
  go_wp2_with fail
  have HST := Lib.hid (OutStep.below H.out (Below.refl _ w))
  go_loopw [6] (fun c wr => ∃ i : Nat, ∃ vr, i ≤ 8 ∧ c = .int .i64 ((8 : Int) - 1 - i) ∧ OutStep O v vr (partL l f n 8 i) f w wr) (fun c _ => (intOf c + 1).toNat)
  case atStart => exact ⟨0, v, by omega, rfl, by rw [partL_none]; exact HST.out⟩
  case round =>
    obtain ⟨i, vr, hi, rfl, hst⟩ := hrel
    have HSR := Lib.hid hst
    clear hst
    have hcs : i = 0 ∨ i = 1 ∨ i = 2 ∨ i = 3 ∨ i = 4 ∨ i = 5 ∨ i = 6 ∨ i = 7 ∨ i = 8 := by omega
    rcases hcs with rfl | rfl | rfl | rfl | rfl | rfl | rfl | rfl | rfl
    · have hx : Hid (n / 72057594037927936 = n / 256 ^ (8 - 1 - 0) % 256) := by unfold Hid; simp; omega
      have hx0 : 0 ≤ n / 72057594037927936 ∧ n / 72057594037927936 ≤ 255 := by omega
      have HX0 := Lib.hid hx0
      clear hx0
      go_wp2_with fail
      generalize hxe : n / 72057594037927936 = x at hx HX0 ⊢
      refine (put_any O _ vr _ _ [x] f _ (HSR.out.is.keep (more (Below.refl _ _) _)) (HoldsB.one wr x HX0.out.1 HX0.out.2) (by have := partL_len l f n 8 0; simp; omega)).mono ?_
      rintro r w2 ⟨rfl, v2, h2⟩
      have H2 := Lib.hid h2
      clear h2
      go_wp2_with fail
      exact ⟨⟨1, v2, by omega, by go_num, by have := HSR.out.trans (OutStep.ahead HSR.out.is (more (Below.refl _ _) _) H2.out); rw [partL_step (by omega) hx.out] at this; exact this⟩, by simp [intOf]⟩
    · have hx : Hid (n / 281474976710656 % 256 = n / 256 ^ (8 - 1 - 1) % 256) := by unfold Hid; simp
      have hx0 : 0 ≤ n / 281474976710656 % 256 ∧ n / 281474976710656 % 256 ≤ 255 := by omega
      have HX0 := Lib.hid hx0
      clear hx0
      go_wp2_with fail
      generalize hxe : n / 281474976710656 % 256 = x at hx HX0 ⊢
      refine (put_any O _ vr _ _ [x] f _ (HSR.out.is.keep (more (Below.refl _ _) _)) (HoldsB.one wr x HX0.out.1 HX0.out.2) (by have := partL_len l f n 8 1; simp; omega)).mono ?_
      rintro r w2 ⟨rfl, v2, h2⟩
      have H2 := Lib.hid h2
      clear h2
      go_wp2_with fail
      exact ⟨⟨2, v2, by omega, by go_num, by have := HSR.out.trans (OutStep.ahead HSR.out.is (more (Below.refl _ _) _) H2.out); rw [partL_step (by omega) hx.out] at this; exact this⟩, by simp [intOf]⟩
    · have hx : Hid (n / 1099511627776 % 256 = n / 256 ^ (8 - 1 - 2) % 256) := by unfold Hid; simp
      have hx0 : 0 ≤ n / 1099511627776 % 256 ∧ n / 1099511627776 % 256 ≤ 255 := by omega
      have HX0 := Lib.hid hx0
      clear hx0
      go_wp2_with fail
      generalize hxe : n / 1099511627776 % 256 = x at hx HX0 ⊢
      refine (put_any O _ vr _ _ [x] f _ (HSR.out.is.keep (more (Below.refl _ _) _)) (HoldsB.one wr x HX0.out.1 HX0.out.2) (by have := partL_len l f n 8 2; simp; omega)).mono ?_
      rintro r w2 ⟨rfl, v2, h2⟩
      have H2 := Lib.hid h2
      clear h2
      go_wp2_with fail
      exact ⟨⟨3, v2, by omega, by go_num, by have := HSR.out.trans (OutStep.ahead HSR.out.is (more (Below.refl _ _) _) H2.out); rw [partL_step (by omega) hx.out] at this; exact this⟩, by simp [intOf]⟩
    · have hx : Hid (n / 4294967296 % 256 = n / 256 ^ (8 - 1 - 3) % 256) := by unfold Hid; simp
      have hx0 : 0 ≤ n / 4294967296 % 256 ∧ n / 4294967296 % 256 ≤ 255 := by omega
      have HX0 := Lib.hid hx0
      clear hx0
      go_wp2_with fail
      generalize hxe : n / 4294967296 % 256 = x at hx HX0 ⊢
      refine (put_any O _ vr _ _ [x] f _ (HSR.out.is.keep (more (Below.refl _ _) _)) (HoldsB.one wr x HX0.out.1 HX0.out.2) (by have := partL_len l f n 8 3; simp; omega)).mono ?_
      rintro r w2 ⟨rfl, v2, h2⟩
      have H2 := Lib.hid h2
      clear h2
      go_wp2_with fail
      exact ⟨⟨4, v2, by omega, by go_num, by have := HSR.out.trans (OutStep.ahead HSR.out.is (more (Below.refl _ _) _) H2.out); rw [partL_step (by omega) hx.out] at this; exact this⟩, by simp [intOf]⟩
    · have hx : Hid (n / 16777216 % 256 = n / 256 ^ (8 - 1 - 4) % 256) := by unfold Hid; simp
      have hx0 : 0 ≤ n / 16777216 % 256 ∧ n / 16777216 % 256 ≤ 255 := by omega
      have HX0 := Lib.hid hx0
      clear hx0
      go_wp2_with fail
      generalize hxe : n / 16777216 % 256 = x at hx HX0 ⊢
      refine (put_any O _ vr _ _ [x] f _ (HSR.out.is.keep (more (Below.refl _ _) _)) (HoldsB.one wr x HX0.out.1 HX0.out.2) (by have := partL_len l f n 8 4; simp; omega)).mono ?_
      rintro r w2 ⟨rfl, v2, h2⟩
      have H2 := Lib.hid h2
      clear h2
      go_wp2_with fail
      exact ⟨⟨5, v2, by omega, by go_num, by have := HSR.out.trans (OutStep.ahead HSR.out.is (more (Below.refl _ _) _) H2.out); rw [partL_step (by omega) hx.out] at this; exact this⟩, by simp [intOf]⟩
    · have hx : Hid (n / 65536 % 256 = n / 256 ^ (8 - 1 - 5) % 256) := by unfold Hid; simp
      have hx0 : 0 ≤ n / 65536 % 256 ∧ n / 65536 % 256 ≤ 255 := by omega
      have HX0 := Lib.hid hx0
      clear hx0
      go_wp2_with fail
      generalize hxe : n / 65536 % 256 = x at hx HX0 ⊢
      refine (put_any O _ vr _ _ [x] f _ (HSR.out.is.keep (more (Below.refl _ _) _)) (HoldsB.one wr x HX0.out.1 HX0.out.2) (by have := partL_len l f n 8 5; simp; omega)).mono ?_
      rintro r w2 ⟨rfl, v2, h2⟩
      have H2 := Lib.hid h2
      clear h2
      go_wp2_with fail
      exact ⟨⟨6, v2, by omega, by go_num, by have := HSR.out.trans (OutStep.ahead HSR.out.is (more (Below.refl _ _) _) H2.out); rw [partL_step (by omega) hx.out] at this; exact this⟩, by simp [intOf]⟩
    · have hx : Hid (n / 256 % 256 = n / 256 ^ (8 - 1 - 6) % 256) := by unfold Hid; simp
      have hx0 : 0 ≤ n / 256 % 256 ∧ n / 256 % 256 ≤ 255 := by omega
      have HX0 := Lib.hid hx0
      clear hx0
      go_wp2_with fail
      generalize hxe : n / 256 % 256 = x at hx HX0 ⊢
      refine (put_any O _ vr _ _ [x] f _ (HSR.out.is.keep (more (Below.refl _ _) _)) (HoldsB.one wr x HX0.out.1 HX0.out.2) (by have := partL_len l f n 8 6; simp; omega)).mono ?_
      rintro r w2 ⟨rfl, v2, h2⟩
      have H2 := Lib.hid h2
      clear h2
      go_wp2_with fail
      exact ⟨⟨7, v2, by omega, by go_num, by have := HSR.out.trans (OutStep.ahead HSR.out.is (more (Below.refl _ _) _) H2.out); rw [partL_step (by omega) hx.out] at this; exact this⟩, by simp [intOf]⟩
    · have hx : Hid (n % 256 = n / 256 ^ (8 - 1 - 7) % 256) := by unfold Hid; simp
      have hx0 : 0 ≤ n % 256 ∧ n % 256 ≤ 255 := by omega
      have HX0 := Lib.hid hx0
      clear hx0
      go_wp2_with fail
      generalize hxe : n % 256 = x at hx HX0 ⊢
      refine (put_any O _ vr _ _ [x] f _ (HSR.out.is.keep (more (Below.refl _ _) _)) (HoldsB.one wr x HX0.out.1 HX0.out.2) (by have := partL_len l f n 8 7; simp; omega)).mono ?_
      rintro r w2 ⟨rfl, v2, h2⟩
      have H2 := Lib.hid h2
      clear h2
      go_wp2_with fail
      exact ⟨⟨8, v2, by omega, by go_num, by have := HSR.out.trans (OutStep.ahead HSR.out.is (more (Below.refl _ _) _) H2.out); rw [partL_step (by omega) hx.out] at this; exact this⟩, by simp [intOf]⟩
    · go_wp2_with fail
      go_end0
      exact ⟨rfl, vr, by rw [← hl.out.1, hl.out.2]; exact HSR.out⟩

end Go.Proofs.Ytioeaknhcfkfcaa
