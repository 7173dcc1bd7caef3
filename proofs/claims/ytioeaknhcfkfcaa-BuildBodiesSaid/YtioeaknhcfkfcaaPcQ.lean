/-
  The document's Split, and the program's where there is none.
-/
import Derived.Test.YtioeaknhcfkfcaaPcP
import Derived.ArgAppend
import Derived.OwnWalk
namespace Go.Proofs.Ytioeaknhcfkfcaa
open Go.RowKit

theorem one_new (w : World) (v : Value) (t : TypeId) : ∀ j u, [v][j]? = some u → (w.alloc (.cells #[v] t)).cell? ((⟨w.heap.size, 0, none⟩ : Addr).add j) = some u := by
  intro j u hj
  match j, hj with
  | 0, hj =>
    simp at hj
    subst hj
    exact (Blk.new w (.cells #[v] t)).cell 0
theorem wpList_append_own2 {P : Program} {w : World} {ops : Array Oper} {rest : List Oper} {o : Oper} {a : Act} {Q : Exit → Act → World → Prop} (hgd : o.guard = none) (s x : Operand) (t : TypeId)
    (ho : o.op = .call { callee := .builtin .append, args := #[s, x], argTypes := #[t, t] })
    (base : Nat) (e : TypeId) (i : TypeInfo) (z : Value) (size bytes : Nat) (ht : P.underlying t = some (.slice e)) (hi : P.info? e = some i) (hz : i.zero = some z)
    (hsize : i.size = size) (hby : i.bytes = bytes) (hzs : z.cells.size = size) (hsz : 0 < size)
    (v : Value) (n : Nat) (xs : List Value) (hs : a.eval s = v) (hown : w.ownsRow base e size v n xs)
    (ad : Addr) (m c : Nat) (news : List Value) (hx : a.eval x = .slice (some ad) m c) (hl : news.length = m * size) (hnews : ∀ j u, news[j]? = some u → w.cell? (ad.add j) = some u) (h1 : ∀ u ∈ news, u.oneCell' = true)
    (h63 : n + m ≤ maxLen) (hbytes : (n + m) * bytes ≤ 140737488355328) (hbase : base ≤ w.heap.size)
    (h : ∀ v' w', w'.ownsRow base e size v' (n + m) (xs ++ news) → w.grownBy w' v.ownBlock → (∀ k, v'.ownBlock = some k → v.ownBlock = some k ∨ w.heap.size ≤ k) → wpList P ops Q rest (a.put o.dst v') w') : wpList P ops Q (o :: rest) a w := by
  have hv := hown.2
  rcases hv with ⟨hv, h0⟩ | ⟨g, cap, cur, hv, hg, hh, hn, hc, hsz2, htk⟩
  · subst h0
    have hxs : xs = [] := List.eq_nil_of_length_eq_zero (by simpa using hown.1)
    subst hxs
    refine wpList_plain hgd fun K hK => ?_
    rw [hv] at hs
    obtain ⟨v', w', hrun, r1, r2, _⟩ := run_append_own (P := P) w w.heap.size t o.type e i z size bytes ht hi hz hsize hby hzs hsz (.slice none 0 0) 0 [] (World.ownsRow_nil w _ e size) ad m c news hl hnews h1 h63 hbytes (Nat.le_refl _)
    unfold Oper.wp
    simp [execOp, ho, resolve, invoke, builtin, hs, hx, hrun, Result.andThen]
    refine hK _ _ (h v' w' (ownsRow_base r1 hbase) (by rw [hv]; exact r2) fun k hk => .inr (r1.lt k hk).1)
  · subst hv
    by_cases hroom : n + m ≤ cap
    · refine wpList_append_fits w hgd s x t ho base e i size ht hi hsize g n cap xs hs hown ad m c news hx hl hnews h1 hroom fun w' h2 h3 => ?_
      exact h _ w' h2 h3 fun k hk => .inl hk
    · refine wpList_append_grows w hgd s x t ho e i z size bytes ht hi hz hsize hby hzs hsz (some ⟨g, 0, none⟩) n cap xs hs (fun e => by cases e) hown.1 (fun b hb => by cases hb; exact hown.cells rfl) ad m c news hx hl hnews h1 (by omega) h63 hbytes fun v' w' h2 h3 => ?_
      exact h v' w' (ownsRow_base h2 hbase) ⟨h3.os, h3.tape, h3.output, h3.size, fun k hk _ => h3.block k hk (by simp)⟩ fun k hk => .inr (h2.lt k hk).1


theorem wp_buildSlice_one {P : Program} {o : Oper} {a : Act} {w : World} {K : Act → World → Prop} {Q : Exit → Act → World → Prop} (t : TypeId) (len : Nat) (x : Operand) (ho : o.op = .buildSlice t len #[(0, x)])
    (u : Value) (hx : a.eval x = u) (v : Value) (w' : World) (hrun : (Instr.buildSlice t len #[(0, u)]).run P w = .ok v w') (h : K (a.put o.dst v) w') : o.wp P a w K Q := by
  subst hx
  unfold Oper.wp execOp
  simp only [ho, Sem.run_bind, List.map_toArray, List.map_cons, List.map_nil, hrun, Result.andThen_ok]
  exact h
theorem wpList_buildSlice_one {P : Program} {ops : Array Oper} {rest : List Oper} {o : Oper} {a : Act} {w : World} {Q : Exit → Act → World → Prop} (hg : o.guard = none) (t : TypeId) (len : Nat) (x : Operand) (ho : o.op = .buildSlice t len #[(0, x)])
    (u : Value) (hx : a.eval x = u) (v : Value) (w' : World) (hrun : (Instr.buildSlice t len #[(0, u)]).run P w = .ok v w') (h : wpList P ops Q rest (a.put o.dst v) w') : wpList P ops Q (o :: rest) a w :=
  wpList_plain hg fun _ hK => wp_buildSlice_one t len x ho u hx v w' hrun (hK _ _ h)
theorem build44 (id at_ m : Int) (a : Option Addr) (n c : Nat) (w : World) : (Instr.buildSlice 105 1 #[(0, .agg #[.int .u32 id, .int .i64 at_, .int .i64 m, .slice a n c])]).run Try.prog w = .ok (.slice (some ⟨w.heap.size, 0, none⟩) 1 1) (w.alloc (.cells #[.int .u32 id, .int .i64 at_, .int .i64 m, .slice a n c] 109)) := by kernel_rfl
theorem info25z : (Try.prog.info? 109).map (fun i => (i.zero, i.size, i.bytes)) = some (some (.agg #[.int .u32 0, .int .i64 0, .int .i64 0, .slice none 0 0]), 4, 48) := by kernel_rfl
theorem row_new4 (w : World) (x : PcV) : ∀ j u, (pcc x)[j]? = some u → (w.alloc (.cells #[.int .u32 x.id, .int .i64 x.at_, .int .i64 x.many, x.v] 109)).cell? ((⟨w.heap.size, 0, none⟩ : Addr).add j) = some u := by
  intro j u hj
  match j, hj with
  | 0, hj => simp [pcc] at hj; subst hj; exact (Blk.new w _).cell 0
  | 1, hj => simp [pcc] at hj; subst hj; exact (Blk.new w _).cell 1
  | 2, hj => simp [pcc] at hj; subst hj; exact (Blk.new w _).cell 2
  | 3, hj => simp [pcc] at hj; subst hj; exact (Blk.new w _).cell 3
  | j + 4, hj => simp [pcc] at hj
def RSplitPost (id : Int) (bl : List Int) (sz m : Nat) (w : World) (r : Ending) (w' : World) : Prop :=
  ∃ v l, r = .returned (.tuple #[v, .int .i64 0]) ∧ Below w.heap.size w w' ∧ DRow w' w.heap.size v l ∧ l.length = m ∧ ∀ (k : Nat) (x : PcV), l[k]? = some x → x.id = id ∧ x.at_ = k ∧ x.many = m ∧ x.l = pieceL bl sz k
def manyN (n sz : Nat) : Nat := if n % sz ≠ 0 ∨ n / sz = 0 then n / sz + 1 else n / sz
set_option maxRecDepth 100000 in
set_option maxHeartbeats 4000000 in
theorem rsplit_any (id : Int) (sz : Nat) (v : Value) (bl : List Int) (w : World) (h : HoldsB w w.heap.size v bl) (hs : 1 ≤ sz ∧ sz ≤ 4096) (hl : bl.length ≤ 16384) (hm32 : manyN bl.length sz ≤ 32) (hk : ∀ k, k < manyN bl.length sz → k * sz ≤ bl.length) :
    Calls Try.prog 43 #[.int .u32 id, v, .int .i64 sz] w (RSplitPost id bl sz (manyN bl.length sz) w) := by
  have H := Kp.mk h
  obtain ⟨a, n, cap, rfl, hn⟩ := h.slice
  have HN := Kp.mk hn
  have hn16 : n ≤ 16384 := by omega
  obtain ⟨i0, hi, hz0, hz1, hz2⟩ := info_parts info5
  obtain ⟨i25, hi25, hy0, hy1, hy2⟩ := info_parts info25z
  have hz1' : ¬ (sz : Int) < 1 := by omega
  have hz2' : ¬ (4096 : Int) < sz := by omega
  have hz3' : ¬ (16384 : Int) < n := by omega
  have hsz0 : ¬ (sz : Int) = 0 := by omega
  have hsz1 : ¬ (sz : Int) = -1 := by omega
  obtain ⟨m, hm⟩ : ∃ m, m = manyN bl.length sz := ⟨_, rfl⟩
  rw [← hm] at hm32 hk ⊢
  have hm3 : ¬ (32 : Int) < m := by omega
  have HKK := Kp.mk hk
  obtain ⟨qt, hqt⟩ : ∃ qt, qt = n / sz := ⟨_, rfl⟩
  obtain ⟨rm, hrm⟩ : ∃ rm, rm = n % sz := ⟨_, rfl⟩
  have hq1 : (n : Int).tdiv sz = (qt : Nat) := by rw [hqt]; rfl
  have hr1 : (n : Int).tmod sz = (rm : Nat) := by rw [hrm]; rfl
  have hqb : qt ≤ 16384 := by rw [hqt]; exact Nat.le_trans (Nat.div_le_self _ _) hn16
  have HMM : Kp (m = if rm ≠ 0 ∨ qt = 0 then qt + 1 else qt) := ⟨by rw [hm, ← hn, hrm, hqt]; rfl⟩
  have hcase : (rm ≠ 0 ∧ m = qt + 1) ∨ (rm = 0 ∧ qt = 0 ∧ m = 1) ∨ (rm = 0 ∧ qt ≠ 0 ∧ m = qt) := by
    have := HMM.out
    by_cases h1 : rm = 0
    · by_cases h2 : qt = 0
      · rw [if_pos (.inr h2)] at this; exact .inr (.inl ⟨h1, h2, by omega⟩)
      · rw [if_neg (by simp [h1, h2])] at this; exact .inr (.inr ⟨h1, h2, this⟩)
    · rw [if_pos (.inl h1)] at this; exact .inl ⟨h1, this⟩
  clear h hn hl hk hm hqt hrm HMM
  have HKM : Kp (∀ i, i < m → ((i : Int) * sz = ((i * sz : Nat) : Int)) ∧ i * sz ≤ 16384) := ⟨fun i h => ⟨by simp, Nat.le_trans (HKK.out i h) (by rw [← HN.out]; exact hn16)⟩⟩
  have HL : ∀ (a : Act), True := fun _ => trivial
  clear HL
  rcases hcase with ⟨h1, h2⟩ | ⟨h1, h2, h3⟩ | ⟨h1, h2, h3⟩
  case' inl =>
    have b1 : ((rm : Int) != 0) = true := by simp; omega
    have b2 : (qt : Int) + 1 = (m : Nat) := by omega
    have b3 : IntKind.i64.wrap (m : Nat) = (m : Nat) := IntWalk.i64_in _ (by omega)
    clear h1 h2
    go_enter Try.func43, Try.ntmps43
    go_wp2_with fail
  case' inr.inl =>
    have b1 : ((rm : Int) != 0) = false := by simp; omega
    have b1' : ((qt : Int) == 0) = true := by simp; omega
    have b2 : (qt : Int) + 1 = (m : Nat) := by omega
    have b3 : IntKind.i64.wrap (m : Nat) = (m : Nat) := IntWalk.i64_in _ (by omega)
    clear h1 h2 h3
    go_enter Try.func43, Try.ntmps43
    go_wp2_with fail
  case' inr.inr =>
    have b1 : ((rm : Int) != 0) = false := by simp; omega
    have b1' : ((qt : Int) == 0) = false := by simp; omega
    have b2 : (qt : Int) = (m : Nat) := by omega
    clear h1 h2 h3
    go_enter Try.func43, Try.ntmps43
    go_wp2_with fail
  all_goals
    clear b1 b2
    try clear b1'
    try clear b3
    go_loopw [9, 10] (fun v9 c wr => ∃ (i : Nat) (l : List PcV), i ≤ m ∧ c = .int .i64 i ∧ l.length = i ∧ Kp (DRow wr w.heap.size v9 l) ∧ Kp (Below w.heap.size w wr) ∧ Kp (∀ (k : Nat) (x : PcV), l[k]? = some x → x.id = id ∧ x.at_ = k ∧ x.many = m ∧ x.l = pieceL bl sz k)) (fun _ c _ => m - (intOf c).toNat)
    case atStart => exact ⟨0, [], by omega, rfl, rfl, ⟨DRow.nil _ _⟩, ⟨Below.refl _ _⟩, ⟨fun k x hx => by simp at hx⟩⟩
    case round =>
      obtain ⟨i, l, hi', rfl, hll, HD, HB, HX⟩ := hrel
      by_cases hlt : i < m
      · have hlt' : (i : Int) < (m : Int) := by omega
        obtain ⟨kz, hkz⟩ : ∃ kz : Nat, kz = i * sz := ⟨_, rfl⟩
        obtain ⟨e, he⟩ : ∃ e : Nat, e = min ((i + 1) * sz) bl.length := ⟨_, rfl⟩
        have hke : kz ≤ e := by have := HKK.out i hlt; rw [he, hkz, Nat.add_mul]; omega
        have hen : e ≤ n := by rw [he, HN.out]; exact Nat.min_le_right _ _
        have hm1 : (i : Int) * sz = (kz : Nat) := by rw [hkz]; simp
        have hm2 : IntKind.i64.wrap (kz : Nat) = (kz : Nat) := IntWalk.i64_in _ (by omega)
        have hm4 : IntKind.i64.wrap ((kz : Int) + sz) = (kz : Int) + sz := IntWalk.i64_in _ (by omega)
        have HE : Kp (e = min (kz + sz) n) := ⟨by rw [he, hkz, HN.out, Nat.add_mul]; omega⟩
        have HPL : Kp (pieceL bl sz i = (bl.take e).drop kz) := ⟨by unfold pieceL; rw [← hkz, ← he]⟩
        have HEL : Kp (((bl.take e).drop kz).length = e - kz) := ⟨by rw [List.length_drop, List.length_take]; have := HN.out; omega⟩
        clear hkz he
        go_wp2_with fail
        have hsz64 : (sz : Int) ≤ 4096 := by omega
        obtain ⟨W1, hW1⟩ : ∃ W1 : World, W1 = wr := ⟨_, rfl⟩
        have HD1 : Kp (DRow W1 w.heap.size u9 l) := ⟨by rw [hW1]; exact HD.out⟩
        have HB1 : Kp (Below w.heap.size w W1) := ⟨by rw [hW1]; exact HB.out⟩
        rw [← hW1]
        clear HD HB hW1
        go_loopw [11, 12] (fun v11 c wq => ∃ j : Nat, j ≤ e - kz ∧ c = .int .i64 ((kz + j : Nat) : Int) ∧ Kp (wq.ownsRow W1.heap.size 5 1 v11 j (bv (((bl.take e).drop kz).take j))) ∧ Kp (Below W1.heap.size W1 wq)) (fun _ c _ => e - (intOf c).toNat)
        case atStart => exact ⟨0, by omega, rfl, ⟨World.ownsRow_nil _ _ _ _⟩, ⟨Below.refl _ _⟩⟩
        case round =>
          obtain ⟨j, hj, rfl, HO, HC⟩ := hrel
          obtain ⟨K, hK⟩ : ∃ K : Nat, K = kz + j := ⟨_, rfl⟩
          rw [← hK]
          by_cases hjt : j < e - kz
          · have hKn : K < n := by omega
            have hKn' : (K : Int) < (n : Int) := by omega
            have hKs : (K : Int) < (kz : Int) + (sz : Nat) := by have := HE.out; omega
            have hKt : (K : Int).toNat = K := by omega
            obtain ⟨b, off, rfl, -, hc⟩ := ((H.out.keep HB1.out).keep (HC.out.mono (by have := HB1.out.size; omega))).cellAt (i := K) (by have := HN.out; omega)
            have HX1 : Kp (bv (((bl.take e).drop kz).take (j + 1)) = bv (((bl.take e).drop kz).take j) ++ [.int .u8 (bl.getD K 0)]) := ⟨by
              have hdl : j < ((bl.take e).drop kz).length := by rw [HEL.out]; exact hjt
              rw [List.take_succ_eq_append_getElem hdl, bv, List.map_append, List.getElem_drop, List.getElem_take, List.getD_eq_getElem?_getD, List.getElem?_eq_getElem (by have := HN.out; omega)]
              simp only [hK]
              rfl⟩
            have HKJ := Kp.mk hK
            generalize bl.getD K 0 = x at *
            have hwK : IntKind.i64.wrap ((K : Int) + 1) = (K : Int) + 1 := IntWalk.i64_in _ (by omega)
            clear hK
            generalize bv (((bl.take e).drop kz).take j) = xs at HO HX1
            go_wp2_with (at_builtin; refine wpList_append_own2 rfl (.tmp 64) (.tmp 69) 39 rfl W1.heap.size 5 i0 (.int .u8 0) 1 1 Try.underlying39 hi hz0 hz1 hz2 rfl (by decide) _ _ _ rfl (ownsRow_below HO.out (more (Below.refl _ _) _)) ⟨wr.heap.size, 0, none⟩ 1 1 [.int .u8 x] rfl ?c0 (one_new _ _ _) ?c2 ?c3 ?c4 ?c5 ?_)
            case c0 => rfl
            case c2 => exact fun u hu => by rw [List.mem_singleton.1 hu]; rfl
            case c3 => unfold maxLen; omega
            case c4 => omega
            case c5 => have := HC.out.size; simp; omega
            · intro v' w4 hown' hgrow _
              have HO4 := Kp.mk hown'
              have HB4 : Kp (Below W1.heap.size W1 w4) := ⟨below_row_grown (HC.out.alloc HC.out.size _) (by have := HC.out.size; simp; omega) (ownsRow_below HO.out (more (Below.refl _ _) _)) hgrow⟩
              clear hown' hgrow
              go_wp2_with fail
              exact ⟨⟨j + 1, by omega, by (have := HKJ.out; congr 1; omega), ⟨by rw [HX1.out]; exact HO4.out⟩, HB4⟩, by have := HKJ.out; simp [intOf]; omega⟩
          · have hje : K = e := by omega
            have HO2 : Kp (wr.ownsRow W1.heap.size 5 1 u11 (pieceL bl sz i).length (bv (pieceL bl sz i))) := ⟨by
              rw [HPL.out, HEL.out]
              have h1 : j = e - kz := by omega
              have h2 := HO.out
              rw [List.take_of_length_le (by rw [HEL.out]; omega)] at h2
              rw [← h1]
              exact h2⟩
            have HD2 : Kp (DRow wr w.heap.size u9 l) := ⟨HD1.out.keep HC.out⟩
            have HB2 : Kp (Below w.heap.size w wr) := ⟨HB1.out.trans (HC.out.mono HB1.out.size)⟩
            have HBY : Kp (Bytes (pieceL bl sz i)) := ⟨by rw [HPL.out]; exact (H.out.bytes.take _).drop _⟩
            obtain ⟨ua, un, uc, rfl⟩ := row_shape HO2.out
            have HT2 : Kp (wr.ownsRow w.heap.size 5 1 (.slice ua un uc) (pieceL bl sz i).length (bv (pieceL bl sz i))) := ⟨row_mono HO2.out HB1.out.size⟩
            obtain ⟨pl, hpl⟩ : ∃ pl, pl = pieceL bl sz i := ⟨_, rfl⟩
            rw [← hpl] at HO2 HT2 HBY HPL
            have HPE := Kp.mk hpl
            clear HO HC HO2 hpl
            have hends : (¬ (K : Int) < (n : Int)) ∨ ((K : Int) < (n : Int) ∧ ¬ (K : Int) < (kz : Int) + (sz : Nat)) := by have := HE.out; omega
            have hbs := build44 id i m ua un uc wr
            have HRW : Kp ((wr.alloc (.cells #[.int .u32 id, .int .i64 i, .int .i64 m, .slice ua un uc] 109)).ownsRow w.heap.size 109 4 u9 l.length (rcells l)) := ⟨ownsRow_below HD2.out.r (more (Below.refl _ _) _)⟩
            have HPU : Kp (∀ v' w', w'.ownsRow w.heap.size 109 4 v' (l.length + 1) (rcells l ++ pcc ⟨id, i, m, .slice ua un uc, pl⟩) → (wr.alloc (.cells #[.int .u32 id, .int .i64 i, .int .i64 m, .slice ua un uc] 109)).grownBy w' u9.ownBlock → DRow w' w.heap.size v' (l ++ [⟨id, i, m, .slice ua un uc, pl⟩]) ∧ Below w.heap.size w w') := ⟨fun v' w' h1 h2 =>
              ⟨(HD2.out.keep (more (Below.refl _ _) _)).push (x := ⟨id, i, m, .slice ua un uc, pl⟩) h1 h2 ⟨ownsRow_below HT2.out (more (Below.refl _ _) _), HBY.out⟩, below_row_grown (HB2.out.alloc HB2.out.size _) (by have := HB2.out.size; simp; omega) HRW.out h2⟩⟩
            have HIL := Kp.mk hll
            have HSZ : Kp (w.heap.size ≤ wr.heap.size) := ⟨HB2.out.size⟩
            obtain ⟨xs4, hxs4⟩ : ∃ xs4, xs4 = rcells l := ⟨_, rfl⟩
            obtain ⟨ll, hllc⟩ : ∃ ll, ll = l.length := ⟨_, rfl⟩
            rw [← hxs4, ← hllc] at HRW HPU
            have HLL := Kp.mk hllc
            have hll33 : ll ≤ 32 := by omega
            clear hxs4 hllc hll
            rcases hends with hend | ⟨hend, hend2⟩
            all_goals
              go_wp2_with (first
                | (refine wpList_buildSlice_one rfl 105 1 (.tmp 76) rfl (.agg #[.int .u32 id, .int .i64 i, .int .i64 m, .slice ua un uc]) rfl _ _ hbs ?_)
                | (at_builtin; refine wpList_append_own2 rfl (.tmp 71) (.tmp 77) 105 rfl w.heap.size 109 i25 (.agg #[.int .u32 0, .int .i64 0, .int .i64 0, .slice none 0 0]) 4 48 Try.underlying105 hi25 hy0 hy1 hy2 rfl (by decide) u9 ll xs4 rfl HRW.out ⟨wr.heap.size, 0, none⟩ 1 1 (pcc ⟨id, i, m, .slice ua un uc, pl⟩) rfl ?c0 ?c1 ?c2 ?c3 ?c4 ?c5 ?_))
              case c0 => rfl
              case c1 => exact fun j u h => h
              case c2 => exact fun u hu => by simp [pcc] at hu; rcases hu with rfl | rfl | rfl | rfl <;> rfl
              case c3 => unfold maxLen; omega
              case c4 => omega
              case c5 => have := HSZ.out; simp; omega
              · intro v' w4 hown' hgrow _
                have HF := Kp.mk (HPU.out v' w4 hown' hgrow)
                clear hown' hgrow hbs
                go_wp2_with fail
                refine ⟨⟨i + 1, l ++ [⟨id, i, m, .slice ua un uc, pl⟩], by omega, by go_num, by simp [HIL.out], ⟨HF.out.1⟩, ⟨HF.out.2⟩, ⟨fun k x hx => ?_⟩⟩, by simp [intOf]; omega⟩
                rw [List.getElem?_append] at hx
                split at hx
                · exact HX.out k x hx
                · rename_i hkl
                  have hk0 : k = i := by
                    have h1 := (List.getElem?_eq_some_iff.1 hx).1
                    simp at h1
                    have := HIL.out
                    omega
                  subst hk0
                  have : k - l.length = 0 := by have := HIL.out; omega
                  rw [this] at hx
                  simp at hx
                  subst hx
                  exact ⟨rfl, rfl, rfl, HPE.out⟩
      · have hee : i = m := by omega
        have hle : ¬ (i : Int) < (m : Int) := by omega
        go_wp2_with fail
        exact bodyPost_ret (results_tmp2 rfl _ _ _) rfl ⟨_, l, rfl, HB.out, HD.out, by omega, HX.out⟩
end Go.Proofs.Ytioeaknhcfkfcaa
