/-
  Valid, whatever has a route.
-/
import Derived.Test.YtfpmmbbbndobiaaReA
import Derived.ArgAppend
import Derived.OwnWalk
namespace Go.Proofs.Ytfpmmbbbndobiaa
open Go.RowKit

/-- append to a row of the call's own, and in which block what comes of it lies. -/
theorem wpList_append_own2 {P : Program} {w : World} {ops : Array Oper} {rest : List Oper} {o : Oper} {a : Act} {Q : Exit → Act → World → Prop} (hgd : o.guard = none) (s x : Operand) (t : TypeId)
    (ho : o.op = .call { callee := .builtin .append, args := #[s, x], argTypes := #[t, t] })
    (base : Nat) (e : TypeId) (i : TypeInfo) (z : Value) (size bytes : Nat) (ht : P.underlying t = some (.slice e)) (hi : P.info? e = some i) (hz : i.zero = some z)
    (hsize : i.size = size) (hby : i.bytes = bytes) (hzs : z.cells.size = size) (hsz : 0 < size)
    (v : Value) (n : Nat) (xs : List Value) (hs : a.eval s = v) (hown : w.ownsRow base e size v n xs)
    (ad : Addr) (m c : Nat) (news : List Value) (hx : a.eval x = .slice (some ad) m c) (hl : news.length = m * size) (hnews : ∀ j u, news[j]? = some u → w.cell? (ad.add j) = some u) (h1 : ∀ u ∈ news, u.oneCell' = true)
    (h63 : n + m ≤ maxLen) (hbytes : (n + m) * bytes ≤ 140737488355328) (hbase : base ≤ w.heap.size)
    (h : ∀ v' w', w'.ownsRow base e size v' (n + m) (xs ++ news) → w.grownBy w' v.ownBlock → (∀ k, v'.ownBlock = some k → v.ownBlock = some k ∨ w.heap.size ≤ k) → wpList P ops Q rest (a.put o.dst v') w') : wpList P ops Q (o :: rest) a w := by
  have hv := hown.2
  rcases hv with ⟨hv, h0⟩ | ⟨g, cap, cur, hv, hg, hh, hn, hc, hsz2, htk⟩
  · subst h0
    have hxs : xs = [] := List.eq_nil_of_length_eq_zero (by simpa using hown.1)
    subst hxs
    refine wpList_plain hgd fun K hK => ?_
    rw [hv] at hs
    obtain ⟨v', w', hrun, r1, r2, _⟩ := run_append_own (P := P) w w.heap.size t o.type e i z size bytes ht hi hz hsize hby hzs hsz (.slice none 0 0) 0 [] (World.ownsRow_nil w _ e size) ad m c news hl hnews h1 h63 hbytes (Nat.le_refl _)
    unfold Oper.wp
    simp [execOp, ho, resolve, invoke, builtin, hs, hx, hrun, Result.andThen]
    refine hK _ _ (h v' w' (ownsRow_base r1 hbase) (by rw [hv]; exact r2) fun k hk => .inr (r1.lt k hk).1)
  · subst hv
    by_cases hroom : n + m ≤ cap
    · refine wpList_append_fits w hgd s x t ho base e i size ht hi hsize g n cap xs hs hown ad m c news hx hl hnews h1 hroom fun w' h2 h3 => ?_
      exact h _ w' h2 h3 fun k hk => .inl hk
    · refine wpList_append_grows w hgd s x t ho e i z size bytes ht hi hz hsize hby hzs hsz (some ⟨g, 0, none⟩) n cap xs hs (fun e => by cases e) hown.1 (fun b hb => by cases hb; exact hown.cells rfl) ad m c news hx hl hnews h1 (by omega) h63 hbytes fun v' w' h2 h3 => ?_
      exact h v' w' (ownsRow_base h2 hbase) ⟨h3.os, h3.tape, h3.output, h3.size, fun k hk _ => h3.block k hk (by simp)⟩ fun k hk => .inr (h2.lt k hk).1



def validL (T : TB) (i : Nat) : List Nat := (List.range i).filter fun d => lkB T d
def rowV (T : TB) (G : Nat → Int × Int × KV) (d : Nat) : List Value := rtc d (lkO T d).kn.k (G d).1 true (G d).2.1 (G d).2.2
def rowsV (T : TB) (G : Nat → Int × Int × KV) (l : List Nat) : List Value := l.flatMap (rowV T G)
theorem valid_yes {T : TB} {d : Nat} (h : lkB T d = true) : validL T (d + 1) = validL T d ++ [d] := by simp [validL, List.range_succ, List.filter_append, h]
theorem valid_nil {T : TB} {d : Nat} (h : lkB T d = false) : validL T (d + 1) = validL T d := by simp [validL, List.range_succ, List.filter_append, h]
theorem valid_lt {T : TB} {i d : Nat} (h : d ∈ validL T i) : d < i := by
  have := (List.mem_filter.1 h).1
  simpa using this
theorem valid_len (T : TB) (i : Nat) : (validL T i).length ≤ i := by
  unfold validL
  exact Nat.le_trans (List.length_filter_le _ _) (by simp)
theorem rowsV_snoc (T : TB) (G : Nat → Int × Int × KV) (l : List Nat) (d : Nat) (n s : Int) (y : KV) (h : ∀ x ∈ l, x < d) : rowsV T (fun e => if e = d then (n, s, y) else G e) (l ++ [d]) = rowsV T G l ++ rtc d (lkO T d).kn.k n true s y := by
  unfold rowsV
  rw [List.flatMap_append]
  have e1 : l.flatMap (rowV T fun e => if e = d then (n, s, y) else G e) = l.flatMap (rowV T G) := by
    rw [List.flatMap_def, List.flatMap_def]
    congr 1
    apply List.map_congr_left
    intro x hx
    have hne : x ≠ d := Nat.ne_of_lt (h x hx)
    unfold rowV
    simp only [if_neg hne]
  rw [e1]
  congr 1
  simp [rowV]
theorem info70' : (Try.prog.info? 70).map (fun i => (i.zero, i.size, i.bytes)) = some (some (.agg rt0.toArray), 28, 112) := by kernel_rfl
theorem build67 (d : Int) (k : K3) (n : Int) (v : Bool) (s : Int) (x : KV) (w : World) : (Instr.buildSlice 67 1 #[(0, .agg (rtc d k n v s x).toArray)]).run Try.prog w = .ok (.slice (some ⟨w.heap.size, 0, none⟩) 1 1) (w.alloc (.cells (rtc d k n v s x).toArray 70)) := by kernel_rfl
theorem news70d (l : List Value) (w : World) (h : w.heap[w.heap.size - 1]? = w.heap[w.heap.size - 1]?) : ∀ j u, l[j]? = some u → (w.alloc (.cells l.toArray 70)).cell? ((⟨w.heap.size, 0, none⟩ : Addr).add j) = some u := fun j u hj => by
  have e : (⟨w.heap.size, 0, none⟩ : Addr).add j = ⟨w.heap.size, j, none⟩ := by
    unfold Addr.add
    split
    · rename_i hh; subst hh; rfl
    · simp
  rw [e]
  exact ((Blk.new w (.cells l.toArray 70)).cell j).trans (by rw [List.getElem?_toArray]; exact hj)
theorem news70 (d : Int) (k : K3) (n : Int) (v : Bool) (s : Int) (x : KV) : (rtc d k n v s x).length = 1 * 28 := rfl
def ValidPost (T : TB) (w : World) (r : Ending) (w' : World) : Prop := ∃ v G, r = .returned v ∧ w'.ownsRow w.heap.size 70 28 v (validL T 8).length (rowsV T G (validL T 8)) ∧ Below w.heap.size w w'
set_option maxRecDepth 100000 in
set_option maxHeartbeats 6400000 in
theorem valid_any (T : TB) (t : Nat) (w : World) (h : Blk w t T.obj) (hwy : T.Ways) (hp : PathsIn w t T) : Calls Try.prog 23 #[.pointer (some ⟨t, 0, none⟩)] w (ValidPost T w) := by
  obtain ⟨i0, hi, hz0, hz1, hz2⟩ := info_parts info70'
  have H0 := Kp.mk h
  have HW := Kp.mk hwy
  have HP := Kp.mk hp
  obtain ⟨B, hB⟩ : ∃ B, B = w.heap.size := ⟨_, rfl⟩
  have HB := Kp.mk hB
  obtain ⟨Z, hZ⟩ : ∃ Z, Z = rt0 := ⟨_, rfl⟩
  have HZ := Kp.mk hZ
  have HINF : Kp ((Try.prog.info? 70).map (fun i => (i.zero, i.size)) = some (some (.agg Z.toArray), 28) ∧ (Try.prog.info? 70).map (·.size) = some Z.toArray.size ∧ ∀ v ∈ Z, v.oneCell' = true) := ⟨by rw [hZ]; exact ⟨info70z, info70s0, rt0_one⟩⟩
  have K0 : Kp (w.ownsRow B 70 28 (.slice none 0 0) 0 []) := ⟨World.ownsRow_nil _ _ _ _⟩
  have E0 : Kp (Below B w w) := ⟨Below.refl _ _⟩
  have ZG : Kp (Z.toArray = rt0.toArray) := ⟨by rw [hZ]⟩
  have HZS : Kp ((Value.agg Z.toArray).cells.size = 28) := ⟨by rw [hZ]; decide +kernel⟩
  rw [← hZ] at hz0
  clear h hwy hp hB hZ
  go_enter Try.func23, Try.ntmps23
  go_wp2_with fail
  go_loopw [3, 4, 6, 7] (fun v _ _ ct wr => ∃ (d : Nat) (G : Nat → Int × Int × KV), d ≤ 8 ∧ ct = .int .i64 d ∧ Kp (wr.ownsRow B 70 28 v (validL T d).length (rowsV T G (validL T d))) ∧ Kp (Below B w wr)) (fun _ _ _ ct _ => 8 - (intOf ct).toNat)
  case atStart => exact ⟨0, fun _ => (0, 0, kn0 0 k0), by omega, rfl, K0, E0⟩
  case round =>
    clear K0 E0
    obtain ⟨d, G, hd8, rfl, K1, E1⟩ := hrel
    by_cases hlt : d < 8
    · have hlt' : (d : Int) < 8 := by omega
      have HD := Kp.mk hlt
      have Z1 : Kp (B ≤ wr.heap.size) := ⟨by rw [HB.out]; exact E1.out.size⟩
      have HT1 : Kp (Blk wr t T.obj ∧ PathsIn wr t T) := ⟨H0.out.keep (by rw [← HB.out]; exact E1.out), HP.out.keep (by rw [← HB.out]; exact E1.out)⟩
      obtain ⟨l, hl⟩ : ∃ l, l = validL T d := ⟨_, rfl⟩
      have HLT : Kp (∀ x ∈ l, x < d) := ⟨fun x hx => valid_lt (by rw [← hl]; exact hx)⟩
      have HLN : Kp (l.length ≤ 8) := ⟨by have := valid_len T d; rw [← hl] at this; omega⟩
      have HVY : Kp (lkB T d = true → validL T (d + 1) = l ++ [d]) := ⟨fun h => by rw [hl]; exact valid_yes h⟩
      have HVN : Kp (lkB T d = false → validL T (d + 1) = l) := ⟨fun h => by rw [hl]; exact valid_nil h⟩
      rw [← hl] at K1
      clear hl hlt
      cases hk : lkB T d with
      | false =>
        have HV := Kp.mk (HVN.out hk)
        have HGN : Kp (Calls Try.prog 24 #[.pointer (some ⟨t, 0, none⟩), .int .i64 d] wr fun r w' => r = .returned (.tuple #[.agg rt0.toArray, .bool false]) ∧ Below wr.heap.size wr w') := ⟨get_no _ _ wr (fun wx hx => (lookup_any T t d wx (HT1.out.1.keep hx) HW.out).mono (fun r w' hh => ⟨⟨lkN T d, by rw [hh.1, hk]⟩, hh.2⟩))⟩
        rw [← ZG.out] at HGN
        clear hk HVY HVN
        go_wp2_with fail
        refine HGN.out.mono ?_
        rintro r w1 ⟨rfl, hb⟩
        have K2 := Kp.mk (ownsRow_below K1.out hb)
        have E2 : Kp (Below B w w1) := ⟨E1.out.trans (hb.mono Z1.out)⟩
        have Z2 : Kp (B ≤ w1.heap.size) := ⟨Nat.le_trans Z1.out hb.size⟩
        clear hb K1 E1 HGN
        go_upto_region 6 with (first
          | (refine wpList_alloc_row rfl 70 rfl Z.toArray 28 HINF.out.1 ?_)
          | (refine wpList_store_row rfl 70 (.tmp 5) (.tmp 14) rfl w1.heap.size Z.toArray rfl rfl 70 _ (Blk.newAt _ rfl) HINF.out.2.1 rfl (all_oneCell_toArray HINF.out.2.2) ?_
             rw [World.setRow_alloc_new]
             have K3 := Kp.mk (ownsRow_below K2.out (more (Below.refl _ _) (.cells Z.toArray 70)))
             have E3 : Kp (Below B w (w1.alloc (.cells Z.toArray 70))) := ⟨E2.out.alloc Z2.out _⟩
             revert K3 E3
             generalize w1.alloc (.cells Z.toArray 70) = w2
             intro K3 E3))
        clear K2 E2
        go_wp2_with fail
        exact ⟨⟨d + 1, G, by have := HD.out; omega, by go_num, by rw [HV.out]; exact K3, E3⟩, by have := HD.out; simp [intOf]; omega⟩
      | true =>
        have HV := Kp.mk (HVY.out hk)
        obtain ⟨p, hpp⟩ := HT1.out.2 (d * 8 + (T.way d).toNat)
        have HGY : Kp (Calls Try.prog 24 #[.pointer (some ⟨t, 0, none⟩), .int .i64 d] wr fun r w' => (∃ n s y, r = .returned (.tuple #[.agg (rtc d (lkO T d).kn.k n true s y).toArray, .bool true])) ∧ Below wr.heap.size wr w') := ⟨(get_yes T t d p wr HT1.out.1 HW.out hk hpp).mono (fun r w' hh => by obtain ⟨a, c, e, _, hb⟩ := hh; exact ⟨⟨_, _, _, e⟩, hb⟩)⟩
        obtain ⟨kk, hkk⟩ : ∃ kk, kk = (lkO T d).kn.k := ⟨_, rfl⟩
        have HKK := Kp.mk hkk
        rw [← hkk] at HGY
        clear hk hpp hkk HVY HVN
        go_wp2_with fail
        refine HGY.out.mono ?_
        rintro r w1 ⟨⟨n, s, y, rfl⟩, hb⟩
        have K2 := Kp.mk (ownsRow_below K1.out hb)
        have E2 : Kp (Below B w w1) := ⟨E1.out.trans (hb.mono Z1.out)⟩
        have Z2 : Kp (B ≤ w1.heap.size) := ⟨Nat.le_trans Z1.out hb.size⟩
        obtain ⟨Mb, hMb⟩ : ∃ Mb, Mb = w1.heap.size := ⟨_, rfl⟩
        have HMb := Kp.mk hMb
        clear hb K1 E1 HGY hMb
        go_upto_region 6 with (first
          | (refine wpList_alloc_row rfl 70 rfl Z.toArray 28 HINF.out.1 ?_)
          | (refine wpList_store_row rfl 70 (.tmp 5) (.tmp 14) rfl w1.heap.size (rtc d kk n true s y).toArray rfl rfl 70 _ (Blk.newAt _ rfl) (info70s _ _ _ _ _ _) (by rw [ZG.out]; rfl) (all_oneCell_toArray (rtc_one _ _ _ _ _ _)) ?_
             rw [World.setRow_alloc_new, ← HMb.out]
             have K3 := Kp.mk (ownsRow_below K2.out (more (Below.refl _ _) (.cells (rtc d kk n true s y).toArray 70)))
             have E3 : Kp (Below B w (w1.alloc (.cells (rtc d kk n true s y).toArray 70)) ∧ B ≤ (w1.alloc (.cells (rtc d kk n true s y).toArray 70)).heap.size) := ⟨E2.out.alloc Z2.out _, by have := Z2.out; simp; omega⟩
             have B3 : Kp (Blk (w1.alloc (.cells (rtc d kk n true s y).toArray 70)) Mb (.cells (rtc d kk n true s y).toArray 70)) := ⟨Blk.newAt _ HMb.out⟩
             revert K3 E3 B3
             generalize w1.alloc (.cells (rtc d kk n true s y).toArray 70) = w2
             intro K3 E3 B3))
        clear K2 E2
        go_wp2_with (first
          | (refine wpList_load_row rfl 70 (.tmp 5) rfl Mb rfl 70 (rtc d kk n true s y).toArray (0, 0) _ B3.out Try.underlying70 rfl (info70s _ _ _ _ _ _) ?_)
          | (refine wpList_buildSlice_one rfl 67 1 (.tmp 18) rfl (.agg (rtc d kk n true s y).toArray) rfl (.slice (some ⟨w2.heap.size, 0, none⟩) 1 1) (w2.alloc (.cells (rtc d kk n true s y).toArray 70)) (build67 _ _ _ _ _ _ w2) ?_)
          | (refine wpList_append_own2 rfl (.tmp 17) (.tmp 19) 67 rfl B 70 i0 (.agg Z.toArray) 28 112 Try.underlying67 hi hz0 hz1 hz2 HZS.out (by decide) u3 l.length (rowsV T G l) rfl (ownsRow_below K3.out (more (Below.refl _ _) _)) ⟨w2.heap.size, 0, none⟩ 1 1 (rtc d kk n true s y) rfl rfl ?d1 (rtc_one _ _ _ _ _ _) ?d2 ?d3 ?d4 ?_
             case d1 => exact news70d _ w2 rfl
             case d2 => have := HLN.out; unfold maxLen; omega
             case d3 => have := HLN.out; omega
             case d4 => have := E3.out.2; simp; omega
             intro vl' w9 ho9 hg9 hv9
             have HO8 := Kp.mk ho9
             have HG8 := Kp.mk hg9
             clear ho9 hg9 hv9))
        have HO9 : Kp (w9.ownsRow B 70 28 vl' (validL T (d + 1)).length (rowsV T (fun e => if e = d then (n, s, y) else G e) (validL T (d + 1)))) := ⟨by
          rw [HV.out, rowsV_snoc T G l d n s y HLT.out, ← HKK.out, List.length_append, List.length_singleton]
          exact HO8.out⟩
        have HB9 : Kp (Below B w w9) := ⟨(E3.out.1.alloc E3.out.2 _).grown HG8.out (by have := E3.out.2; simp; omega) (fun q e => (K3.out.lt q e).1)⟩
        exact ⟨⟨d + 1, _, by have := HD.out; omega, by go_num, HO9, HB9⟩, by have := HD.out; simp [intOf]; omega⟩
    · have hi8 : d = 8 := by omega
      have KF : Kp (ValidPost T w (.returned u3) wr) := ⟨_, G, rfl, by rw [← HB.out, ← hi8]; exact K1.out, by rw [← HB.out]; exact E1.out⟩
      have hnlt : ¬ (d : Int) < 8 := by omega
      clear hi8 hlt K1 E1
      go_wp2_with fail
      go_ret
      exact KF.out
end Go.Proofs.Ytfpmmbbbndobiaa
