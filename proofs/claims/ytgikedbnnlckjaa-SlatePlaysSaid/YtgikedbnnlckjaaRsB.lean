/-
  layer 14: the document's Of, Is.
-/
import Derived.Test.YtgikedbnnlckjaaRsA
import Derived.Test.YtgikedbnnlckjaaDiF
namespace Go.Proofs.Ytgikedbnnlckjaa
open Go.RowKit

theorem info30 : (Try.prog.info? 30).map (·.size) = some 64 := by kernel_rfl
theorem cells30 {l : List Int} (h : l.length = 64) : (Try.prog.info? 30).map (·.size) = some (kv .u8 l).toArray.size := by rw [kv_size, h]; exact info30
theorem cells30L {l : List Int} (h : l.length = 64) : (Try.prog.info? 30).map (·.size) = some (kv .u8 l).length := by rw [List.length_map, h]; exact info30
theorem infoz30 : (Try.prog.info? 30).map (fun i => (i.zero, i.size)) = some (some (.agg (kv .u8 z64).toArray), 64) := by kernel_rfl
theorem build30z (w : World) : (Instr.build 30 #[]).run Try.prog w = .ok (sec z64) w := run_build w 30 #[] _ (by kernel_rfl)
theorem exec_build30z {o : Oper} {a : Act} {w : World} (ho : o.op = .build 30 #[]) : (execOp a.eval o).run Try.prog w = .ok (.value (sec z64)) w := by
  unfold execOp
  simp only [ho, List.map_toArray, List.map_nil, Sem.run_bind, build30z, Result.andThen_ok, Sem.run_pure]
/-- A slice of writes, as it is read. -/
def Wr (w : World) (a : Option Addr) (l : List (Nat × List Int)) : Prop := ∀ i (hi : i < l.length), ∃ b, a = some ⟨b, 0, none⟩ ∧ b < w.heap.size ∧ w.rangeAt b (i * 65) (wcells l[i])
theorem Wr.keep {w w' : World} {a : Option Addr} {l : List (Nat × List Int)} (h : Wr w a l) (hb : Below w.heap.size w w') : Wr w' a l := fun i hi => by
  obtain ⟨b, e1, e2, e3⟩ := h i hi
  exact ⟨b, e1, Nat.lt_of_lt_of_le e2 hb.size, rangeAt_below hb e2 e3⟩
theorem own_wr {w : World} {B : Nat} {a : Option Addr} {n c : Nat} {l : List (Nat × List Int)} (h : w.ownsRow B 98 65 (.slice a n c) l.length (qcells l)) (ho : ∀ x ∈ l, x.2.length = 64) : Wr w a l := fun i hi => by
  rcases h.2 with ⟨_, hn⟩ | ⟨g, cap, cur, e, a1, a2, a3, a4, a5, a6⟩
  · omega
  · simp only [Value.slice.injEq] at e
    obtain ⟨rfl, rfl, rfl⟩ := e
    refine ⟨g, rfl, (Array.getElem?_eq_some_iff.1 a2).1, fun j u hu => ?_⟩
    have hh : i * 65 + j < l.length * 65 := by
      have h1 := (List.getElem?_eq_some_iff.1 hu).1
      have h2 : (wcells l[i]).length = 65 := by
        have := wcells_len (k := l[i].1) (ho _ (List.getElem_mem hi))
        simpa using this
      omega
    have h9 := h.cellAt (i * 65 + j) hh
    rw [h9]
    exact qcells_at ho hi hu
/-- A sector, as a list of writes makes it. -/
def ofL (l : List (Nat × List Int)) (a : Int) (z : List Int) : List Int := l.foldl (fun acc x => if (x.1 : Int) = a then x.2 else acc) z
theorem ofL_snoc (l : List (Nat × List Int)) (x : Nat × List Int) (a : Int) (z : List Int) : ofL (l ++ [x]) a z = if (x.1 : Int) = a then x.2 else ofL l a z := by simp [ofL]
theorem ofL_len : ∀ (l : List (Nat × List Int)) (a : Int) (z : List Int), (∀ x ∈ l, x.2.length = 64 ∧ Bytes x.2) → z.length = 64 ∧ Bytes z → (ofL l a z).length = 64 ∧ Bytes (ofL l a z)
  | [], _, _, _, h => h
  | x :: r, a, z, hl, h => by
    have e : ofL (x :: r) a z = ofL r a (if (x.1 : Int) = a then x.2 else z) := rfl
    rw [e]
    refine ofL_len r a _ (fun y hy => hl y (by simp [hy])) ?_
    split
    · exact hl x (by simp)
    · exact h
set_option maxRecDepth 100000 in
set_option maxHeartbeats 2000000 in
theorem of_any (a : Option Addr) (len cap : Nat) (l : List (Nat × List Int)) (k : Int) (z : List Int) (w : World) (hlen : l.length = len) (hmx : len ≤ 1000000) (hw : Wr w a l) (hl : ∀ x ∈ l, x.2.length = 64 ∧ Bytes x.2) (hz : z.length = 64 ∧ Bytes z) :
    Calls Try.prog 41 #[.slice a len cap, .int .i64 k, sec z] w fun r w' => r = .returned (sec (ofL l k z)) ∧ Below w.heap.size w w' := by
  have HW := Kp.mk hw
  have HL := Kp.mk hl
  have HZ := Kp.mk hz
  have HLN := Kp.mk hlen
  have hC := fun (w : World) => box_row (t := 30) (cs := kv .u8 z) (cells30 hz.1) w
  obtain ⟨F, hF⟩ : ∃ F, F = w.heap.size := ⟨_, rfl⟩
  have HF := Kp.mk hF
  rw [← hF]
  clear hw hl hz hlen
  go_enter Try.func41, Try.ntmps41
  go_wp2_with (first
    | (refine wpList_box_eq rfl 30 (.tmp 2) rfl _ rfl _ _ (hC _) ?_; rw [← HF.out]; refine wpl_world (w := w.alloc (.cells (kv .u8 z).toArray 30)) (fun w2 => Row w2 F 30 .u8 z ∧ Below F w w2 ∧ w2.heap.size = F + 1) ⟨Blk.newAt _ HF.out, by rw [HF.out]; exact more (Below.refl _ _) _, by simp [HF.out]⟩ ?_; rintro W1 ⟨h1, h2, h3⟩; have K1 := Kp.mk h1; have K2 := Kp.mk h2; have K3 := Kp.mk h3; have hs1 := h3; clear h1 h2 h3 hF)
    | (refine wpList_alloc_row rfl 30 rfl _ _ infoz30 ?_; refine wpl_world (w := W1.alloc (.cells (kv .u8 z64).toArray 30)) (fun w2 => Row w2 (F + 1) 30 .u8 z64 ∧ Row w2 F 30 .u8 z ∧ Below F w w2) ⟨Blk.newAt _ K3.out.symm, K1.out.alloc _, K2.out.alloc (by rw [K3.out]; omega) _⟩ ?_; rintro W2 h1; have H2 := Kp.mk h1; clear h1))
  clear hC hs1
  go_loopw [7] (fun i wr => ∃ j : Nat, j ≤ len ∧ i = .int .i64 j ∧ Row wr (F + 1) 30 .u8 z64 ∧ Row wr F 30 .u8 (ofL (l.take j) k z) ∧ Below F w wr) (fun i _ => len - (intOf i).toNat)
  case atStart => exact ⟨0, Nat.zero_le _, rfl, H2.out⟩
  case round =>
    obtain ⟨j, hj, rfl, hr⟩ := hrel
    have H := Kp.mk hr
    have HZJ : Kp ((ofL (l.take j) k z).length = 64 ∧ Bytes (ofL (l.take j) k z)) := ⟨ofL_len _ _ _ (fun x hx => HL.out x (List.mem_of_mem_take hx)) HZ.out⟩
    clear hr
    by_cases hjl : j < len
    · have hjl' : (j : Int) < (len : Int) := by omega
      have hjll : j < l.length := by rw [HLN.out]; exact hjl
      obtain ⟨b, rfl, hb1, hb2⟩ := HW.out j hjll
      obtain ⟨xk, xz, hx⟩ : ∃ xk xz, l[j] = (xk, xz) := ⟨_, _, rfl⟩
      rw [hx] at hb2
      have HRX : Kp (wr.rangeAt b (j * 65) (wcells (xk, xz))) := ⟨rangeAt_below H.out.2.2 (by rw [HF.out]; exact hb1) hb2⟩
      have HXL : Kp (xz.length = 64 ∧ Bytes xz) := ⟨by have := HL.out _ (List.getElem_mem hjll); rw [hx] at this; exact this⟩
      have c0 : wr.cell? ⟨b, j * 65, none⟩ = some (.int .i64 (xk : Nat)) := HRX.out 0 _ rfl
      have HXR : Kp (wr.rangeAt b (j * 65 + 1) (kv .u8 xz)) := ⟨fun i v hv => by
        have := HRX.out (1 + i) v (by rw [Nat.add_comm]; exact hv)
        rw [← Nat.add_assoc] at this
        exact this⟩
      have HS : Kp (ofL (l.take (j + 1)) k z = if (xk : Int) = k then xz else ofL (l.take j) k z) := ⟨by rw [List.take_add_one, List.getElem?_eq_getElem hjll, hx]; simp only [Option.toList_some]; rw [ofL_snoc]⟩
      clear hx hb2 hjll
      by_cases hk : (xk : Int) = k
      · have HK := Kp.mk hk
        have hk' : ((xk : Int) == k) = true := by simp [hk]
        clear hk
        go_wp2_with (first
          | (refine wpList_load_mid rfl 30 (.tmp 24) rfl b (j * 65 + 1) rfl (kv .u8 xz) _ HXR.out Try.underlying30 rfl (cells30L HXL.out.1) ?_)
          | (refine wpList_store_row rfl 30 (.tmp 5) (.tmp 25) rfl F (kv .u8 xz).toArray rfl rfl 30 _ H.out.2.1 (cells30 HXL.out.1) (by rw [kv_size, kv_size, HXL.out.1, HZJ.out.1]) (kv_all _ _) ?_; refine wpl_world (fun w2 => Row w2 (F + 1) 30 .u8 z64 ∧ Row w2 F 30 .u8 xz ∧ Below F w w2) ⟨(setRow_other _ _ _ _ (by omega)).trans H.out.1, H.out.2.1.setRow _, Below.row H.out.2.2 (Nat.le_refl _) _⟩ ?_; rintro W3 h1; have H3 := Kp.mk h1; clear h1 c0))
        go_roundw
        case rel => exact ⟨j + 1, by omega, by first | rfl | go_num, by rw [HS.out, if_pos HK.out]; exact H3.out⟩
        case measure => simp [intOf] <;> omega
      · have HK := Kp.mk hk
        have hk' : ((xk : Int) == k) = false := by simp [hk]
        go_wp2_with fail
        go_roundw
        case rel => exact ⟨j + 1, by omega, by first | rfl | go_num, by rw [HS.out, if_neg HK.out]; exact H.out⟩
        case measure => simp [intOf] <;> omega
    · obtain rfl : j = len := by omega
      have HE : Kp (ofL (l.take j) k z = ofL l k z) := ⟨by rw [List.take_of_length_le (by rw [HLN.out]; exact Nat.le_refl _)]⟩
      rw [HE.out] at H HZJ
      go_wp2_with (first
        | (refine wpList_load_row rfl 30 (.tmp 5) rfl F rfl 30 _ (0, 0) _ H.out.2.1 Try.underlying30 rfl (cells30 HZJ.out.1) ?_)
        | (refine wpList_store_row rfl 30 (.tmp 6) (.tmp 26) rfl (F + 1) (kv .u8 (ofL l k z)).toArray rfl rfl 30 _ H.out.1 (cells30 HZJ.out.1) (by rw [kv_size, kv_size, HZJ.out.1, z64_len]) (kv_all _ _) ?_; refine wpl_world (fun w2 => Row w2 (F + 1) 30 .u8 (ofL l k z) ∧ Below F w w2) ⟨H.out.1.setRow _, Below.row H.out.2.2 (by omega) _⟩ ?_; rintro W3 ⟨h1, h2⟩; have H3 := Kp.mk h1; have H4 := Kp.mk h2; clear h1 h2))
      exact bodyPost_ret (results_row rfl _ _ (F + 1) 30 _ (0, 0) _ rfl H3.out Try.underlying30 rfl (cells30 HZJ.out.1)) rfl ⟨rfl, H4.out⟩
theorem RlIs.slices {w : World} {M : Nat} {v1 v2 : Value} {r : RlS} (h : RlIs w M v1 v2 r) : (∃ a c, v1 = .slice a r.sure.length c) ∧ ∃ a c, v2 = .slice a r.q.length c := by
  refine ⟨?_, ?_⟩
  · rcases h.o1.2 with ⟨rfl, hn⟩ | ⟨g', cap, cur, rfl, _⟩
    · exact ⟨none, 0, by rw [hn]⟩
    · exact ⟨_, cap, rfl⟩
  · rcases h.o2.2 with ⟨rfl, hn⟩ | ⟨g', cap, cur, rfl, _⟩
    · exact ⟨none, 0, by rw [hn]⟩
    · exact ⟨_, cap, rfl⟩
set_option maxRecDepth 100000 in
set_option maxHeartbeats 1000000 in
theorem ris_any (M : Nat) (v1 v2 : Value) (r : RlS) (k : Int) (w : World) (h : RlIs w M v1 v2 r) :
    Calls Try.prog 42 #[rP M, .int .i64 k] w fun e w' => e = .returned (sec (ofL r.sure k z64)) ∧ Below w.heap.size w w' := by
  have H := Kp.mk h
  obtain ⟨⟨a, c, hv⟩, -⟩ := h.slices
  subst hv
  obtain ⟨ln, hln⟩ : ∃ ln, ln = r.sure.length := ⟨_, rfl⟩
  have HLN := Kp.mk hln.symm
  rw [← hln] at H
  have HWr : Kp (Wr w a r.sure) := ⟨own_wr h.o1 (fun x hx => (h.k.s1 x hx).1)⟩
  have HS : Kp (r.sure.length ≤ 1000000 ∧ ∀ x ∈ r.sure, x.2.length = 64 ∧ Bytes x.2) := ⟨h.k.sl, h.k.s1⟩
  have HO : Kp ((ofL r.sure k z64).length = 64) := ⟨(ofL_len _ _ _ h.k.s1 ⟨z64_len, z64_b⟩).1⟩
  obtain ⟨F, hF⟩ : ∃ F, F = w.heap.size := ⟨_, rfl⟩
  have HF := Kp.mk hF
  clear h hln
  go_enter Try.func42, Try.ntmps42
  go_wp2_with (first
    | (refine wpList_alloc_row rfl 30 rfl _ _ infoz30 ?_; rw [← HF.out]; refine wpl_world (w := w.alloc (.cells (kv .u8 z64).toArray 30)) (fun w2 => Row w2 F 30 .u8 z64 ∧ Below w.heap.size w w2) ⟨Blk.newAt _ HF.out, more (Below.refl _ _) _⟩ ?_; rintro W1 ⟨h1, h2⟩; have K1 := Kp.mk h1; have K2 := Kp.mk h2; have c1 : W1.cell? ⟨M, 1, none⟩ = some (.slice a ln c) := (H.out.keep h2).cells.1.2.1; clear h1 h2 hF)
    | (refine wpList_val rfl (exec_build30z rfl) ?_))
  refine (of_any a ln c r.sure k z64 _ HLN.out (by rw [← HLN.out]; exact HS.out.1) (HWr.out.keep K2.out) HS.out.2 ⟨z64_len, z64_b⟩).mono ?_
  rintro e w2 ⟨rfl, hb2⟩
  have HR2 := Kp.mk (K1.out.keep hb2)
  have HB2 : Kp (Below w.heap.size w w2) := ⟨K2.out.trans (hb2.mono K2.out.size)⟩
  clear hb2 c1
  go_wp2_with (refine wpList_store_row rfl 30 (.tmp 4) (.tmp 11) rfl F (kv .u8 (ofL r.sure k z64)).toArray rfl rfl 30 _ HR2.out (cells30 HO.out) (by rw [kv_size, kv_size, HO.out, z64_len]) (kv_all _ _) ?_; refine wpl_world (fun w2 => Row w2 F 30 .u8 (ofL r.sure k z64) ∧ Below w.heap.size w w2) ⟨HR2.out.setRow _, Below.row HB2.out (by rw [HF.out]; exact Nat.le_refl _) _⟩ ?_; rintro W3 ⟨h1, h2⟩; have H3 := Kp.mk h1; have H4 := Kp.mk h2; clear h1 h2)
  exact bodyPost_ret (results_row rfl _ _ F 30 _ (0, 0) _ rfl H3.out Try.underlying30 rfl (cells30 HO.out)) rfl ⟨rfl, H4.out⟩
end Go.Proofs.Ytgikedbnnlckjaa
