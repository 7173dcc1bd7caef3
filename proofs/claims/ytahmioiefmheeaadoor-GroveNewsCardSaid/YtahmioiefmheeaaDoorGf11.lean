/-
  ladder.above: the row above a row.
  mac.Equal, mac.Same, mac.Pick.
  mac.Pick.
  append of bytes to an empty row: the run itself. Whether two rows of bytes, as arrays or as texts, are one.
-/
import Derived.Test.YtahmioiefmheeaaDoorGf10
import Derived.Laws.BitsLemmas
import Derived.Laws.Closers25b
import Derived.ArgAppend
import Derived.Stop.BytesEq
namespace Go.Proofs.YtahmioiefmheeaaDoor
open Go.RowKit

/-- The j-th sum of a row of sums. -/
def segL (p : List Int) (j : Nat) : List Int := (p.drop (j * 16)).take 16
theorem segL_len {p : List Int} {n j : Nat} (h : p.length = n * 16) (hj : j < n) : (segL p j).length = 16 := by
  unfold segL
  rw [List.length_take, List.length_drop]
  omega
theorem Bytes.seg {p : List Int} (h : Bytes p) (j : Nat) : Bytes (segL p j) := (h.drop _).take _
theorem rowsL_bytes {f : Nat → List Int} (h : ∀ i, Bytes (f i)) : ∀ n, Bytes (rowsL f n)
  | 0 => Bytes.nil
  | n + 1 => (rowsL_bytes h n).append (h n)
theorem info33L : (Tryd.prog.info? 33).map (·.size) = some 16 := by kernel_rfl
theorem exec_load_at33 {o : Oper} {a : Act} {w : World} {x : Operand} {b c : Nat} {s : List Int} (ho : o.op = .load 33 x) (hx : a.eval x = .pointer (some ⟨b, c, none⟩)) (hc : w.rangeAt b c (kv .u8 s)) (hs : s.length = 16) :
    (execOp a.eval o).run Tryd.prog w = .ok (.value (dgV s)) w := by
  unfold execOp
  simp only [ho, hx, Instr.loadAt, Instr.sureAddr, Sem.run_bind, Sem.run_pure, Result.andThen_ok, run_loadVar_mid w b c 33 (kv .u8 s) _ hc Tryd.underlying33 rfl (by rw [info33L, List.length_map, hs])]
theorem idx66 (B n cap j : Nat) (hj : j < n) (w : World) : (Instr.indexAt 66 (.slice (some ⟨B, 0, none⟩) n cap) (.int .i64 j)).run Tryd.prog w = .ok (.pointer (some ⟨B, j * 16, none⟩)) w := by
  go_simp
theorem exec_idx66 {o : Oper} {a : Act} {w : World} {x y : Operand} {B n cap j : Nat} {q : Int} (ho : o.op = .indexAddr 66 x y) (hx : a.eval x = .slice (some ⟨B, 0, none⟩) n cap) (hy : a.eval y = .int .i64 q) (hq : q = (j : Nat)) (hj : j < n) :
    (execOp a.eval o).run Tryd.prog w = .ok (.value (.pointer (some ⟨B, j * 16, none⟩))) w := by
  unfold execOp
  subst hq
  simp only [ho, hx, hy, Sem.run_bind, idx66 B n cap j hj w, Result.andThen_ok, Sem.run_pure]
/-- The row above a row. -/
def upL (d e s r : Int) (p : List Int) (m : Nat) : List Int := rowsL (fun i => shortL (joinT d e s r (segL p (2 * i)) (segL p (2 * i + 1)))) m
set_option maxRecDepth 100000 in
set_option maxHeartbeats 2000000 in
theorem rowUp_any (d e s r : Int) (p : List Int) (n m B cap : Nat) (w : World) (hk : KonIs w) (he : 0 ≤ e ∧ e < 4294967296) (hs : 0 ≤ s ∧ s < 4294967296) (hp : p.length = n * 16) (hb : Bytes p) (hn : n = 2 * m) (hm : m ≤ 4) (hr : Row w B 33 .u8 p) :
    Calls Tryd.prog 117 #[plV d e s, .int .i64 r, .slice (some ⟨B, 0, none⟩) n cap] w fun q w' => ∃ C, q = .returned (.slice (some ⟨C, 0, none⟩) m m) ∧ Row w' C 33 .u8 (upL d e s r p m) ∧ w.heap.size ≤ C ∧ Below w.heap.size w w' := by
  have HK := Kp.mk hk
  have HE := Kp.mk he
  have HS := Kp.mk hs
  have HP := Kp.mk hp
  have HB := Kp.mk hb
  have HR := Kp.mk hr
  have hmk := make66 m (by omega)
  clear hk he hs hp hb hr
  go_enter Tryd.func117, Tryd.ntmps117
  go_wp2_with fail
  obtain ⟨A, hA⟩ : ∃ A, A = w.heap.size := ⟨_, rfl⟩
  have HA := Kp.mk hA
  have HBA : Kp (B < A) := ⟨by rw [hA]; exact HR.out.lt⟩
  have hBA := HBA.out
  rw [← hA]
  refine wp_world (fun W => Blk W A (.cells #[.int .i64 d, .int .u32 e, .int .u32 s] 51) ∧ Row W B 33 .u8 p ∧ Row W (A + 1) 33 .u8 (List.replicate (m * 16) 0) ∧ Below A w W) ⟨?_, ?_, ?_, ?_⟩ ?_
  · exact Blk.old (Blk.newAt _ hA) _
  · exact Blk.old (Blk.old HR.out _) _
  · have h := Blk.newAt (w := w.alloc (.cells #[.int .i64 d, .int .u32 e, .int .u32 s] 51)) (b := A + 1) (.cells (kv .u8 (List.replicate (m * 16) 0)).toArray 33) (by rw [hA]; simp)
    simpa [Row] using h
  · rw [hA]; exact more (more (Below.refl _ _) _) _
  have HN := Kp.mk hn
  clear hA hmk hn
  rintro W ⟨g1, g2, g3, g4⟩
  have G1 := Kp.mk g1
  have G2 := Kp.mk g2
  have G3 := Kp.mk g3
  have G4 := Kp.mk g4
  clear g1 g2 g3 g4 HR
  obtain ⟨q, hq⟩ : ∃ q, q = upL d e s r p m := ⟨_, rfl⟩
  have HL : Kp (q.length = m * 16 ∧ ∀ i, i < m → (q.drop (i * 16)).take 16 = shortL (joinT d e s r (segL p (2 * i)) (segL p (2 * i + 1)))) := ⟨by rw [hq]; exact ⟨rowsL_len (fun i => shortL_len _) m, fun i hi => rowsL_mid (fun i => shortL_len _) m i hi⟩⟩
  have HQ9 := Kp.mk hq
  clear hq
  go_wp2_with fail
  go_loopw [15] (fun c wr => ∃ i : Nat, i ≤ m ∧ c = .int .i64 i ∧ Blk wr A (.cells #[.int .i64 d, .int .u32 e, .int .u32 s] 51) ∧ Row wr B 33 .u8 p ∧ Row wr (A + 1) 33 .u8 (sumsRow q m i) ∧ Below A w wr) (fun c _ => m - (intOf c).toNat)
  case atStart => exact ⟨0, by omega, rfl, G1.out, G2.out, G3.out.as sumsRow_none.symm, G4.out⟩
  case round =>
    obtain ⟨i, hi, rfl, g1, g2, g3, g4⟩ := hrel
    clear G1 G2 G3 G4
    have G1 := Kp.mk g1
    have G2 := Kp.mk g2
    have G3 := Kp.mk g3
    have G4 := Kp.mk g4
    clear g1 g2 g3 g4
    by_cases hlt : i < m
    · have hi2 : 2 * i + 1 < n := by have := HN.out; omega
      obtain ⟨z, hz⟩ : ∃ z, z = shortL (joinT d e s r (segL p (2 * i)) (segL p (2 * i + 1))) := ⟨_, rfl⟩
      have HZ : Kp (z.length = 16 ∧ (q.drop (i * 16)).take 16 = z ∧ z = shortL (joinT d e s r (segL p (2 * i)) (segL p (2 * i + 1)))) := ⟨by rw [hz]; exact ⟨shortL_len _, HL.out.2 i hlt, rfl⟩⟩
      clear hz
      go_wp2_with fail
      refine wp_region_pred (fun w' => Blk w' A (.cells #[.int .i64 d, .int .u32 e, .int .u32 s] 51) ∧ Row w' B 33 .u8 p ∧ Row w' (A + 1) 33 .u8 (sumsRow q m i) ∧ Below A w w') [0, 1, 2, 3, 4, 5, 6, 7, 8, 9, 10, 11, 12, 13, 14, 15, 16] [17]
        (fun ι w' v => match ι with
          | 0 => v = .slice (some ⟨A + 1, 0, none⟩) m m
          | 1 | 5 | 10 => v = .int .i64 i
          | 2 => v = plV d e s
          | 3 => v = .int .i64 r
          | 4 | 9 => v = .slice (some ⟨B, 0, none⟩) n cap
          | 6 | 11 => v = .int .i64 (2 * (i : Int))
          | 7 => v = .pointer (some ⟨B, 2 * i * 16, none⟩)
          | 8 => v = dgV (segL p (2 * i))
          | 12 => v = .int .i64 (2 * (i : Int) + 1)
          | 13 => v = .pointer (some ⟨B, (2 * i + 1) * 16, none⟩)
          | 14 => v = dgV (segL p (2 * i + 1))
          | 15 => v = dgV z
          | 16 => v = .pointer (some ⟨A + 1, i * 16, none⟩)
          | _ => v = .bool true)
        [[], [], [], [], [], [], [(5, some 23)], [(4, some 22), (6, some 24)], [(7, some 25)], [], [], [(10, some 28)], [(11, some 29)], [(9, some 27), (12, some 30)], [(13, some 31)], [(2, some 20), (3, some 21), (8, some 26), (14, some 32)], [(0, some 18), (1, some 19), (2, some 20), (3, some 21), (4, some 22), (5, some 23), (6, some 24), (7, some 25), (8, some 26), (9, some 27), (10, some 28), (11, some 29), (12, some 30), (13, some 31), (14, some 32), (15, some 33)]]
        [(0, some 18), (1, some 19), (2, some 20), (3, some 21), (4, some 22), (5, some 23), (6, some 24), (7, some 25), (8, some 26), (9, some 27), (10, some 28), (11, some 29), (12, some 30), (13, some 31), (14, some 32), (15, some 33), (16, some 34)]
        (by kernel_rfl) (by kernel_rfl) (by kernel_rfl) (by kernel_rfl) (by kernel_rfl) (by kernel_rfl) (by decide) (by decide) (fun w1 w2 h hb => ⟨h.1.keep hb, h.2.1.keep hb, h.2.2.1.keep hb, h.2.2.2.trans (hb.mono (Nat.le_of_lt h.1.lt))⟩) ?_ ⟨G1.out.draw, G2.out.drew, G3.out.drew, G4.out.drew⟩ ?_ ?_
      · intro ι w1 w2 v h hb
        match ι, h with
        | 0, h => exact h
        | 1, h => exact h
        | 2, h => exact h
        | 3, h => exact h
        | 4, h => exact h
        | 5, h => exact h
        | 6, h => exact h
        | 7, h => exact h
        | 8, h => exact h
        | 9, h => exact h
        | 10, h => exact h
        | 11, h => exact h
        | 12, h => exact h
        | 13, h => exact h
        | 14, h => exact h
        | 15, h => exact h
        | 16, h => exact h
        | _ + 17, h => exact h
      · refine ⟨fun γ wx hS h => ?_, fun γ wx hS h => ?_, fun γ wx hS h => ?_, fun γ wx hS h => ?_, fun γ wx hS h => ?_, fun γ wx hS h => ?_, fun γ wx hS h => ?_, fun γ wx hS h => ?_, fun γ wx hS h => ?_, fun γ wx hS h => ?_, fun γ wx hS h => ?_, fun γ wx hS h => ?_, fun γ wx hS h => ?_, fun γ wx hS h => ?_, fun γ wx hS h => ?_, fun γ wx hS h => ?_, fun γ wx hS h => ?_, trivial⟩
        · refine ⟨_, rfl, Or.inl ⟨rfl, predRun_value (v := .slice (some ⟨A + 1, 0, none⟩) m m) (by simp only [putE]; first | rfl | (go_simp; done) | (go_simp; with_reducible rfl) | (go_simp; rfl)) rfl⟩⟩
        · refine ⟨_, rfl, Or.inl ⟨rfl, predRun_value (v := .int .i64 i) (by simp only [putE]; first | rfl | (go_simp; done) | (go_simp; with_reducible rfl) | (go_simp; rfl)) rfl⟩⟩
        · refine ⟨_, rfl, Or.inl ⟨rfl, predRun_value (exec_load_blk 51 (.tmp 3) rfl (A) rfl 51 _ (0, 0) _ hS.1 Tryd.underlying51 rfl (cells51 d e s)) rfl⟩⟩
        · refine ⟨_, rfl, Or.inl ⟨rfl, predRun_value (v := .int .i64 r) (by simp only [putE]; first | rfl | (go_simp; done) | (go_simp; with_reducible rfl) | (go_simp; rfl)) rfl⟩⟩
        · refine ⟨_, rfl, Or.inl ⟨rfl, predRun_value (v := .slice (some ⟨B, 0, none⟩) n cap) (by simp only [putE]; first | rfl | (go_simp; done) | (go_simp; with_reducible rfl) | (go_simp; rfl)) rfl⟩⟩
        · refine ⟨_, rfl, Or.inl ⟨rfl, predRun_value (v := .int .i64 i) (by simp only [putE]; first | rfl | (go_simp; done) | (go_simp; with_reducible rfl) | (go_simp; rfl)) rfl⟩⟩
        · have h5 := h
          have e5 : γ 5 = .int .i64 i := h5
          refine ⟨_, rfl, Or.inl ⟨rfl, predRun_value (v := .int .i64 (2 * (i : Int))) (by simp only [putE, e5]; have e1 : IntKind.i64.wrap (2 * (i : Int)) = 2 * (i : Int) := IntWalk.i64_in _ (by omega); first | rfl | (go_simp; done) | (go_simp; with_reducible rfl) | (go_simp; rfl)) rfl⟩⟩
        · obtain ⟨h4, h6⟩ := h
          have e4 : γ 4 = .slice (some ⟨B, 0, none⟩) n cap := h4
          have e6 : γ 6 = .int .i64 (2 * (i : Int)) := h6
          refine ⟨_, rfl, Or.inl ⟨rfl, predRun_value (exec_idx66 (x := .tmp 22) (y := .tmp 24) (B := B) (n := n) (cap := cap) (j := 2 * i) rfl (by simp only [putE, e4, e6, Act.put, List.setIfInBounds_toArray, List.set_cons_zero, List.set_cons_succ]; rfl) (by simp only [putE, e4, e6, Act.put, List.setIfInBounds_toArray, List.set_cons_zero, List.set_cons_succ]; rfl) (by omega) (by omega)) rfl⟩⟩
        · have h7 := h
          have e7 : γ 7 = .pointer (some ⟨B, 2 * i * 16, none⟩) := h7
          refine ⟨_, rfl, Or.inl ⟨rfl, predRun_value (exec_load_at33 (x := .tmp 25) rfl (by simp only [putE, e7, Act.put, List.setIfInBounds_toArray, List.set_cons_zero, List.set_cons_succ]; rfl) (hS.2.1.mid (o := (2 * i) * 16) (n := 16) (by have := HP.out; omega)) (segL_len HP.out (by omega))) rfl⟩⟩
        · refine ⟨_, rfl, Or.inl ⟨rfl, predRun_value (v := .slice (some ⟨B, 0, none⟩) n cap) (by simp only [putE]; first | rfl | (go_simp; done) | (go_simp; with_reducible rfl) | (go_simp; rfl)) rfl⟩⟩
        · refine ⟨_, rfl, Or.inl ⟨rfl, predRun_value (v := .int .i64 i) (by simp only [putE]; first | rfl | (go_simp; done) | (go_simp; with_reducible rfl) | (go_simp; rfl)) rfl⟩⟩
        · have h10 := h
          have e10 : γ 10 = .int .i64 i := h10
          refine ⟨_, rfl, Or.inl ⟨rfl, predRun_value (v := .int .i64 (2 * (i : Int))) (by simp only [putE, e10]; have e1 : IntKind.i64.wrap (2 * (i : Int)) = 2 * (i : Int) := IntWalk.i64_in _ (by omega); first | rfl | (go_simp; done) | (go_simp; with_reducible rfl) | (go_simp; rfl)) rfl⟩⟩
        · have h11 := h
          have e11 : γ 11 = .int .i64 (2 * (i : Int)) := h11
          refine ⟨_, rfl, Or.inl ⟨rfl, predRun_value (v := .int .i64 (2 * (i : Int) + 1)) (by simp only [putE, e11]; have e1 : IntKind.i64.wrap (2 * (i : Int) + 1) = 2 * (i : Int) + 1 := IntWalk.i64_in _ (by omega); first | rfl | (go_simp; done) | (go_simp; with_reducible rfl) | (go_simp; rfl)) rfl⟩⟩
        · obtain ⟨h9, h12⟩ := h
          have e9 : γ 9 = .slice (some ⟨B, 0, none⟩) n cap := h9
          have e12 : γ 12 = .int .i64 (2 * (i : Int) + 1) := h12
          refine ⟨_, rfl, Or.inl ⟨rfl, predRun_value (exec_idx66 (x := .tmp 27) (y := .tmp 30) (B := B) (n := n) (cap := cap) (j := 2 * i + 1) rfl (by simp only [putE, e9, e12, Act.put, List.setIfInBounds_toArray, List.set_cons_zero, List.set_cons_succ]; rfl) (by simp only [putE, e9, e12, Act.put, List.setIfInBounds_toArray, List.set_cons_zero, List.set_cons_succ]; rfl) (by omega) (by omega)) rfl⟩⟩
        · have h13 := h
          have e13 : γ 13 = .pointer (some ⟨B, (2 * i + 1) * 16, none⟩) := h13
          refine ⟨_, rfl, Or.inl ⟨rfl, predRun_value (exec_load_at33 (x := .tmp 31) rfl (by simp only [putE, e13, Act.put, List.setIfInBounds_toArray, List.set_cons_zero, List.set_cons_succ]; rfl) (hS.2.1.mid (o := (2 * i + 1) * 16) (n := 16) (by have := HP.out; omega)) (segL_len HP.out (by omega))) rfl⟩⟩
        · obtain ⟨h2, h3, h8, h14⟩ := h
          have e2 : γ 2 = plV d e s := h2
          have e3 : γ 3 = .int .i64 r := h3
          have e8 : γ 8 = dgV (segL p (2 * i)) := h8
          have e14 : γ 14 = dgV (segL p (2 * i + 1)) := h14
          refine ⟨_, rfl, Or.inl ⟨rfl, predRun_call (f := 38) (args := #[plV d e s, .int .i64 r, dgV (segL p (2 * i)), dgV (segL p (2 * i + 1))]) (by simp only [putE, e2, e3, e8, e14]; go_simp) ?_⟩⟩
          exact (join_any d e s r (segL p (2 * i)) (segL p (2 * i + 1)) wx (HK.out.keep (by rw [← HA.out]; exact hS.2.2.2)) HE.out HS.out (segL_len HP.out (by omega)) (HB.out.seg _) (segL_len HP.out (by omega)) (HB.out.seg _)).mono fun e w2 ⟨h1, h2⟩ => ⟨_, h1, by show dgV _ = dgV z; rw [HZ.out.2.2], h2⟩
        · obtain ⟨h0, h1, h2, h3, h4, h5, h6, h7, h8, h9, h10, h11, h12, h13, h14, h15⟩ := h
          have e0 : γ 0 = .slice (some ⟨A + 1, 0, none⟩) m m := h0
          have e1 : γ 1 = .int .i64 i := h1
          have e2 : γ 2 = plV d e s := h2
          have e3 : γ 3 = .int .i64 r := h3
          have e4 : γ 4 = .slice (some ⟨B, 0, none⟩) n cap := h4
          have e5 : γ 5 = .int .i64 i := h5
          have e6 : γ 6 = .int .i64 (2 * (i : Int)) := h6
          have e7 : γ 7 = .pointer (some ⟨B, 2 * i * 16, none⟩) := h7
          have e8 : γ 8 = dgV (segL p (2 * i)) := h8
          have e9 : γ 9 = .slice (some ⟨B, 0, none⟩) n cap := h9
          have e10 : γ 10 = .int .i64 i := h10
          have e11 : γ 11 = .int .i64 (2 * (i : Int)) := h11
          have e12 : γ 12 = .int .i64 (2 * (i : Int) + 1) := h12
          have e13 : γ 13 = .pointer (some ⟨B, (2 * i + 1) * 16, none⟩) := h13
          have e14 : γ 14 = dgV (segL p (2 * i + 1)) := h14
          have e15 : γ 15 = dgV z := h15
          refine ⟨_, rfl, Or.inl ⟨rfl, ?_⟩⟩
          simp only [putE, e0, e1, e2, e3, e4, e5, e6, e7, e8, e9, e10, e11, e12, e13, e14, e15, Act.put, List.setIfInBounds_toArray, List.set_cons_zero, List.set_cons_succ]
          refine predRun_value (v := .pointer (some ⟨A + 1, i * 16, none⟩)) ?_ rfl
          exact exec_idx66 (x := .tmp 18) (y := .tmp 19) rfl rfl rfl rfl hlt
      · intro γ w9 hS h
        have e15 : γ 15 = dgV z := h.2.2.2.2.2.2.2.2.2.2.2.2.2.2.2.1
        have e16 : γ 16 = .pointer (some ⟨A + 1, i * 16, none⟩) := h.2.2.2.2.2.2.2.2.2.2.2.2.2.2.2.2
        simp only [putE, Act.put, List.setIfInBounds_toArray, List.set_cons_zero, List.set_cons_succ]
        rw [e15, e16]
        have F1 := Kp.mk hS.1
        have F2 := Kp.mk hS.2.1
        have F3 := Kp.mk hS.2.2.1
        have F4 := Kp.mk hS.2.2.2
        clear h hS e15 e16 G1 G2 G3 G4
        refine wpOps_step rfl rfl ?_
        refine wp_store_mid 33 (.tmp 34) (.tmp 33) rfl (A + 1) (i * 16) (kv .u8 z).toArray rfl rfl ?a1 ?a2 ?a3 ?_
        case a1 =>
          have h := F3.out.there (o := i * 16) (n := 16) (by rw [sumsRow_len HL.out.1 (by omega)]; omega)
          rw [kv_size, HZ.out.1]
          exact h
        case a2 => exact cells50 HZ.out.1
        case a3 => exact kv_all _ _
        have HR3 : Kp (Row (w9.setCells (A + 1) (i * 16) (kv .u8 z)) (A + 1) 33 .u8 (sumsRow q m (i + 1))) := ⟨by
          have h := Row.setCells z (i * 16) w9 _ (by rw [sumsRow_len HL.out.1 (by omega), HZ.out.1]; omega) F3.out
          have e := sumsRow_put HL.out.1 hlt
          rw [HZ.out.2.1] at e
          rw [e] at h
          exact h⟩
        refine wpOps_done ?_
        go_wp2_with fail
        exact ⟨⟨i + 1, by omega, by go_num, Blk.otherCells (by omega) _ _ _ F1.out, Row.otherCells (by omega) _ _ _ F2.out, HR3.out, Below.cells (by omega) _ _ _ _ F4.out⟩, by simp [intOf]; omega⟩
    · have hi' : i = m := by omega
      subst hi'
      rw [sumsRow_all HL.out.1, HQ9.out] at G3
      go_wp2_with fail
      go_ret
      exact ⟨A + 1, rfl, G3.out, by rw [← HA.out]; omega, by rw [← HA.out]; exact G4.out⟩
end Go.Proofs.YtahmioiefmheeaaDoor

namespace Go.Proofs.YtahmioiefmheeaaDoor
open Go.RowKit

theorem ofInt_zero64 (u : Int) (h0 : -9223372036854775808 ≤ u) (h1 : u ≤ 9223372036854775807) : BitVec.ofInt 64 u = 0#64 ↔ u = 0 := by
  refine ⟨fun h => ?_, fun h => by subst h; rfl⟩
  have := congrArg BitVec.toNat h
  rw [BitVec.toNat_ofInt] at this
  simp at this
  omega
theorem ofInt_inj64 (u v : Int) (h0 : 0 ≤ u) (h1 : u ≤ 9223372036854775807) (g0 : 0 ≤ v) (g1 : v ≤ 9223372036854775807) : BitVec.ofInt 64 u = BitVec.ofInt 64 v ↔ u = v := by
  refine ⟨fun h => ?_, fun h => by subst h; rfl⟩
  have := congrArg BitVec.toNat h
  rw [BitVec.toNat_ofInt, BitVec.toNat_ofInt] at this
  omega
set_option maxRecDepth 100000 in
theorem wrap64_zero (b : BitVec 64) : IntKind.i64.wrap (b.toNat : Int) = 0 ↔ b = 0#64 := by
  have h := b.isLt
  rw [IntKind.wrap_i64]
  refine ⟨fun e => ?_, fun e => by rw [e]; decide⟩
  apply BitVec.eq_of_toNat_eq
  simp
  omega
theorem or64 (u v : Int) (h0 : -9223372036854775808 ≤ u) (h1 : u ≤ 9223372036854775807) (g0 : -9223372036854775808 ≤ v) (g1 : v ≤ 9223372036854775807) : bits .or .i64 u v = 0 ↔ u = 0 ∧ v = 0 := by
  have e : bits .or .i64 u v = IntKind.i64.wrap ((BitVec.ofInt 64 u ||| BitVec.ofInt 64 v).toNat : Int) := rfl
  rw [e, wrap64_zero, BitVec.or_eq_zero_iff, ofInt_zero64 u h0 h1, ofInt_zero64 v g0 g1]
theorem xor64 (u v : Int) (h0 : 0 ≤ u) (h1 : u ≤ 9223372036854775807) (g0 : 0 ≤ v) (g1 : v ≤ 9223372036854775807) : bits .xor .i64 u v = 0 ↔ u = v := by
  have e : bits .xor .i64 u v = IntKind.i64.wrap ((BitVec.ofInt 64 u ^^^ BitVec.ofInt 64 v).toNat : Int) := rfl
  rw [e, wrap64_zero, BitVec.xor_eq_zero_iff, ofInt_inj64 u v h0 h1 g0 g1]
theorem xor8 (u v : Int) (h0 : 0 ≤ u ∧ u ≤ 255) (g0 : 0 ≤ v ∧ v ≤ 255) : bits .xor .u8 u v = 0 ↔ u = v := by
  have e : bits .xor .u8 u v = IntKind.u8.wrap ((BitVec.ofInt 8 u ^^^ BitVec.ofInt 8 v).toNat : Int) := rfl
  have h := (BitVec.ofInt 8 u ^^^ BitVec.ofInt 8 v).isLt
  rw [e, IntKind.wrap_u8']
  constructor
  · intro h1
    have h2 : (BitVec.ofInt 8 u ^^^ BitVec.ofInt 8 v) = 0#8 := by
      apply BitVec.eq_of_toNat_eq
      show (BitVec.ofInt 8 u ^^^ BitVec.ofInt 8 v).toNat = 0
      omega
    have h3 := congrArg BitVec.toNat (BitVec.xor_eq_zero_iff.1 h2)
    rw [BitVec.toNat_ofInt, BitVec.toNat_ofInt] at h3
    omega
  · intro h1
    subst h1
    rw [BitVec.xor_self]
    rfl
/-- What the loop holds. -/
theorem take_eq {p q : List Int} {i : Nat} (hi : i < p.length) (hj : i < q.length) : p.take (i + 1) = q.take (i + 1) ↔ p.take i = q.take i ∧ p.getD i 0 = q.getD i 0 := by
  rw [take_succ_get hi, take_succ_get hj]
  constructor
  · intro h
    have := List.append_inj h (by rw [List.length_take, List.length_take]; omega)
    exact ⟨this.1, by simpa using this.2⟩
  · rintro ⟨h1, h2⟩
    rw [h1, h2]
theorem eq_take {p q : List Int} : p = q ↔ p.length = q.length ∧ p.take (min p.length q.length) = q.take (min p.length q.length) := by
  constructor
  · rintro rfl; exact ⟨rfl, rfl⟩
  · rintro ⟨h1, h2⟩
    rw [h1, Nat.min_self, List.take_length] at h2
    rw [List.take_of_length_le (by omega)] at h2
    exact h2
set_option maxRecDepth 100000 in
set_option maxHeartbeats 1000000 in
theorem equal_any (M N : Nat) (v u : Value) (p q : List Int) (w : World) (hp : HoldsB w M v p) (hq : HoldsB w N u q) :
    Calls Tryd.prog 28 #[v, u] w fun r w' => r = .returned (.bool (decide (p = q))) ∧ Below w.heap.size w w' := by
  have hlp := hp.len
  have hlq := hq.len
  unfold maxLen at hlp hlq
  obtain ⟨a, n, cap, rfl, hn⟩ := hp.slice
  obtain ⟨a2, m, cap2, rfl, hm⟩ := hq.slice
  have HP := Kp.mk hp
  have HQ := Kp.mk hq
  have HN := Kp.mk hn
  have HM := Kp.mk hm
  have n0 : n ≤ 9223372036854775807 := by omega
  have m0 : m ≤ 9223372036854775807 := by omega
  clear hp hq hn hm hlp hlq
  go_enter Tryd.func28, Tryd.ntmps28
  go_wp2_with fail
  obtain ⟨k, hk⟩ : ∃ k, k = min n m := ⟨_, rfl⟩
  have hmin : min (n : Int) (m : Int) = (k : Int) := by omega
  rw [hmin]
  have kn : k ≤ n := by omega
  have km : k ≤ m := by omega
  have HKk := Kp.mk hk
  clear hmin hk
  obtain ⟨x0, hx0⟩ : ∃ x0, x0 = bits .xor .i64 (n : Int) (m : Int) := ⟨_, rfl⟩
  have HX0 : Kp (x0 = 0 ↔ n = m) := ⟨by rw [hx0, xor64 _ _ (by omega) (by omega) (by omega) (by omega)]; omega⟩
  have HXR : Kp (-9223372036854775808 ≤ x0 ∧ x0 ≤ 9223372036854775807) := ⟨by
    have h1 : IntKind.i64.min = -9223372036854775808 := rfl
    have h2 : IntKind.i64.max = 9223372036854775807 := rfl
    have := bits_within .xor .i64 (n : Int) (m : Int)
    rw [← hx0, h1, h2] at this
    exact this⟩
  rw [← hx0]
  clear hx0
  obtain ⟨A, hA⟩ : ∃ A, A = w.heap.size := ⟨_, rfl⟩
  have HA := Kp.mk hA
  clear hA
  go_loopw [5, 17] (fun s5 c wr => ∃ (i : Nat) (z : Int), i ≤ k ∧ c = .int .i64 i ∧ s5 = .int .i64 z ∧ (-9223372036854775808 ≤ z ∧ z ≤ 9223372036854775807) ∧ Kp (z = 0 ↔ n = m ∧ p.take i = q.take i) ∧ Below A w wr) (fun _ c _ => k - (intOf c).toNat)
  case atStart => exact ⟨0, x0, by omega, rfl, rfl, HXR.out, ⟨by rw [HX0.out]; simp⟩, by rw [HA.out]; exact Below.refl _ _⟩
  case round =>
    obtain ⟨i, z, hi, rfl, rfl, hz, HZ, hb⟩ := hrel
    have z0 := hz.1
    have z1 := hz.2
    have HB := Kp.mk hb
    clear hz hb
    by_cases hlt : i < k
    · obtain ⟨b, off, rfl, -, hc⟩ := HP.out.cellAt (i := i) (by have := HN.out; omega)
      obtain ⟨b2, off2, rfl, -, hc2⟩ := HQ.out.cellAt (i := i) (by have := HM.out; omega)
      have hl1 : b < w.heap.size := World.block_lt_of_cell? w _ hc
      have hl2 : b2 < w.heap.size := World.block_lt_of_cell? w _ hc2
      have hd1 : wr.cell? ⟨b, off + i, none⟩ = some (.int .u8 (p.getD i 0)) := (World.cell?_of_block (w := w) (a := ⟨b, off + i, none⟩) (HB.out.block b (by rw [HA.out]; exact hl1))).trans hc
      have hd2 : wr.cell? ⟨b2, off2 + i, none⟩ = some (.int .u8 (q.getD i 0)) := (World.cell?_of_block (w := w) (a := ⟨b2, off2 + i, none⟩) (HB.out.block b2 (by rw [HA.out]; exact hl2))).trans hc2
      have r1 := HP.out.bytes.at (i := i) (by have := HN.out; omega)
      have r2 := HQ.out.bytes.at (i := i) (by have := HM.out; omega)
      have HT := Kp.mk (take_eq (p := p) (q := q) (i := i) (by have := HN.out; omega) (by have := HM.out; omega))
      clear hc hc2 hl1 hl2
      generalize p.getD i 0 = x at *
      generalize q.getD i 0 = y at *
      have HE := Kp.mk (xor8 x y r1 r2)
      have HO := Kp.mk (or64 z (bits .xor .u8 x y) z0 z1 (by have := (bits_u8r .xor x y); omega) (by have := (bits_u8r .xor x y); omega))
      have HR := Kp.mk (bits_u8r .xor x y)
      have HR1 := Kp.mk r1
      have HR2 := Kp.mk r2
      have in1 : (i : Int) < n := by omega
      have im1 : (i : Int) < m := by omega
      obtain ⟨r1a, r1b⟩ := r1
      obtain ⟨r2a, r2b⟩ := r2
      go_wp2_with fail
      go_quiet (fail)
      have hw : wrap64 (bits .xor .u8 x y) = bits .xor .u8 x y := by have := HR.out; unfold wrap64; omega
      rw [hw]
      have HZ2 : Kp (bits .or .i64 z (bits .xor .u8 x y) = 0 ↔ n = m ∧ p.take (i + 1) = q.take (i + 1)) := ⟨by rw [HO.out, HZ.out, HE.out, HT.out, and_assoc]⟩
      have HR3 : Kp (-9223372036854775808 ≤ bits .or .i64 z (bits .xor .u8 x y) ∧ bits .or .i64 z (bits .xor .u8 x y) ≤ 9223372036854775807) := ⟨bits_lo_i64 _ _ _, bits_hi_i64 _ _ _⟩
      clear hw
      generalize bits .or .i64 z (bits .xor .u8 x y) = z2 at *
      have HB2 : Kp (Below A w (wr.drewN nq)) := ⟨below_drewN HB.out nq⟩
      clear hd1 hd2
      generalize wr.drewN nq = w2 at *
      go_wp2_with fail
      exact ⟨⟨i + 1, z2, by omega, by go_num, rfl, HR3.out, HZ2, HB2.out⟩, by simp [intOf]; omega⟩
    · have HI : Kp (i = k) := ⟨by omega⟩
      have hge : (k : Int) ≤ i := by omega
      have HF : Kp ((z == 0) = decide (p = q)) := ⟨by
        have h := HZ.out
        rw [HI.out, HKk.out] at h
        have h2 : z = 0 ↔ p = q := by
          rw [h, eq_take (p := p) (q := q), ← HN.out, ← HM.out]
        rw [Bool.eq_iff_iff, beq_iff_eq, decide_eq_true_iff]
        exact h2⟩
      clear hlt hi
      go_wp2_with fail
      go_ret
      exact ⟨by show Ending.returned (.bool (z == 0)) = _; rw [HF.out], by rw [← HA.out]; exact HB.out⟩
set_option maxRecDepth 100000 in
set_option maxHeartbeats 1000000 in
theorem same_any (x y : List Int) (w : World) (hx : x.length = 16) (hxb : Bytes x) (hy : y.length = 16) (hyb : Bytes y) :
    Calls Tryd.prog 29 #[dgV x, dgV y] w fun r w' => r = .returned (.bool (decide (x = y))) ∧ Below w.heap.size w w' := by
  have HX := Kp.mk hx
  have HXB := Kp.mk hxb
  have HY := Kp.mk hy
  have HYB := Kp.mk hyb
  clear hx hxb hy hyb
  go_enter Tryd.func29, Tryd.ntmps29
  go_wp2_with fail
  obtain ⟨A, hA⟩ : ∃ A, A = w.heap.size := ⟨_, rfl⟩
  have HA := Kp.mk hA
  rw [← hA]
  refine wp_world (fun W => Row W A 33 .u8 x ∧ Row W (A + 1) 33 .u8 y ∧ Below A w W) ⟨Blk.old (Blk.newAt _ hA) _, Blk.newAt _ (by simp [hA]), by rw [hA]; exact more (more (Below.refl _ _) _) _⟩ ?_
  clear hA
  rintro W ⟨h1, h2, h3⟩
  refine wp_region_flow (fun w' => Row w' A 33 .u8 x ∧ Row w' (A + 1) 33 .u8 y ∧ Below A w w') (by kernel_rfl) (by kernel_rfl) (by kernel_rfl) (fun w1 w2 h hb => ⟨h.1.keep hb, h.2.1.keep hb, h.2.2.trans (hb.mono (Nat.le_of_lt h.1.lt))⟩) ⟨h1.drew, h2.drew, h3.drew⟩ ?_
  repeat (first
    | (apply Flow.value
       · rfl
       · (intro wx hS; have hs := slice50_all; go_simp; with_reducible rfl)
       try simp only [Act.put, List.setIfInBounds_toArray, List.set_cons_zero, List.set_cons_succ])
    | (apply Flow.call
       · rfl
       · (intro wx hS; go_simp; constructor <;> with_reducible rfl)
       · (intro wx hS; exact equal_any _ _ _ _ x y wx (hold16 hS.1 HX.out HXB.out) (hold16 hS.2.1 HY.out HYB.out))
       try simp only [Act.put, List.setIfInBounds_toArray, List.set_cons_zero, List.set_cons_succ]))
  refine Flow.done ?_
  intro w' hS
  go_wp2_with fail
  go_ret
  exact ⟨rfl, by rw [← HA.out]; exact hS.2.2⟩
theorem number_any (b : Bool) (w : World) : Calls Tryd.prog 94 #[.bool b] w fun r w' => r = .returned (.int .u8 (if b then 1 else 0)) ∧ w' = w := by
  cases b
  · go_enter Tryd.func94, Tryd.ntmps94
    go_wp2_with fail
    go_ret
    exact ⟨rfl, rfl⟩
  · go_enter Tryd.func94, Tryd.ntmps94
    go_wp2_with fail
    go_ret
    exact ⟨rfl, rfl⟩
/-- One byte of what is picked. -/
theorem pick8 (b : Bool) (x y : Int) (hx : 0 ≤ x ∧ x ≤ 255) (hy : 0 ≤ y ∧ y ≤ 255) : bits .xor .u8 x (bits .and .u8 (if b then 255 else 0) (bits .xor .u8 x y)) = if b then y else x := by
  have e : ∀ (op : BinOp) (u v : Int) (f : BitVec 8 → BitVec 8 → BitVec 8), (∀ s t, bits op .u8 s t = IntKind.u8.wrap ((f (BitVec.ofInt 8 s) (BitVec.ofInt 8 t)).toNat : Int)) → BitVec.ofInt 8 (bits op .u8 u v) = f (BitVec.ofInt 8 u) (BitVec.ofInt 8 v) := by
    intro op u v f h
    rw [h, IntKind.wrap_u8']
    have hl := (f (BitVec.ofInt 8 u) (BitVec.ofInt 8 v)).isLt
    apply BitVec.eq_of_toNat_eq
    rw [BitVec.toNat_ofInt]
    omega
  have hz : ∀ u v : Int, 0 ≤ u ∧ u ≤ 255 → 0 ≤ v ∧ v ≤ 255 → BitVec.ofInt 8 u = BitVec.ofInt 8 v → u = v := by
    intro u v hu hv h
    have := congrArg BitVec.toNat h
    rw [BitVec.toNat_ofInt, BitVec.toNat_ofInt] at this
    omega
  refine hz _ _ (bits_u8r _ _ _) (by cases b <;> assumption) ?_
  rw [e .xor _ _ (· ^^^ ·) (fun _ _ => rfl), e .and _ _ (· &&& ·) (fun _ _ => rfl), e .xor _ _ (· ^^^ ·) (fun _ _ => rfl)]
  cases b
  · show BitVec.ofInt 8 x ^^^ (0#8 &&& (BitVec.ofInt 8 x ^^^ BitVec.ofInt 8 y)) = BitVec.ofInt 8 x
    rw [BitVec.zero_and, BitVec.xor_zero]
  · show BitVec.ofInt 8 x ^^^ (BitVec.allOnes 8 &&& (BitVec.ofInt 8 x ^^^ BitVec.ofInt 8 y)) = BitVec.ofInt 8 y
    rw [BitVec.allOnes_and, ← BitVec.xor_assoc, BitVec.xor_self, BitVec.zero_xor]
end Go.Proofs.YtahmioiefmheeaaDoor

namespace Go.Proofs.YtahmioiefmheeaaDoor
open Go.RowKit

/-- What stands behind so many rounds. -/
def pk (t x : List Int) (i : Nat) : List Int := t.take i ++ x.drop i
theorem pk_len (t x : List Int) (i : Nat) (ht : t.length = 16) (hx : x.length = 16) (h : i ≤ 16) : (pk t x i).length = 16 := by simp [pk]; omega
theorem pk_zero (t x : List Int) : pk t x 0 = x := by simp [pk]
theorem pk_full (t x : List Int) (ht : t.length = 16) (hx : x.length = 16) : pk t x 16 = t := by
  unfold pk
  rw [List.take_of_length_le (by omega), List.drop_of_length_le (by omega), List.append_nil]
theorem pk_get (t x : List Int) (i : Nat) (ht : t.length = 16) (hx : x.length = 16) (h : i < 16) : (pk t x i).getD i 0 = x.getD i 0 := by
  unfold pk
  rw [List.getD_eq_getElem?_getD, List.getD_eq_getElem?_getD, List.getElem?_append_right (by rw [List.length_take]; omega), List.length_take, List.getElem?_drop]
  congr 2
  omega
theorem pk_set (t x : List Int) (i : Nat) (ht : t.length = 16) (hx : x.length = 16) (h : i < 16) : (pk t x i).set i (t.getD i 0) = pk t x (i + 1) := by
  unfold pk
  have e : (t.take i).length = i := by rw [List.length_take]; omega
  rw [List.set_append_right _ _ (by omega), e, Nat.sub_self, take_succ_get (by omega), List.append_assoc, List.drop_eq_getElem_cons (i := i) (by omega), List.set_cons_zero]
  rfl
set_option maxRecDepth 100000 in
set_option maxHeartbeats 1000000 in
theorem pick_true (x y : List Int) (w : World) (hx : x.length = 16) (hxb : Bytes x) (hy : y.length = 16) (hyb : Bytes y) :
    Calls Tryd.prog 30 #[.bool true, dgV x, dgV y] w fun r w' => r = .returned (dgV y) ∧ Below w.heap.size w w' := by
  have HX := Kp.mk hx
  have HXB := Kp.mk hxb
  have HY := Kp.mk hy
  have HYB := Kp.mk hyb
  have HT := Kp.mk (show (y).length = 16 from by assumption)
  clear hx hxb hy hyb
  go_enter Tryd.func30, Tryd.ntmps30
  go_wp2_with fail
  obtain ⟨A, hA⟩ : ∃ A, A = w.heap.size := ⟨_, rfl⟩
  have HA := Kp.mk hA
  rw [← hA]
  refine calls_world (fun W => Row W A 33 .u8 (pk y x 0) ∧ Row W (A + 1) 33 .u8 y ∧ Row W (A + 2) 33 .u8 (fill 16 []) ∧ Below A w W) ⟨by rw [pk_zero]; exact Blk.old (Blk.old (Blk.newAt _ hA) _) _, Blk.old (Blk.newAt _ (by simp [hA])) _, Blk.newAt _ (by simp [hA]), by rw [hA]; exact more (more (more (Below.refl _ _) _) _) _⟩ ?_
  rw [show A + 1 + 1 = A + 2 from rfl]
  clear hA
  rintro W ⟨h1, h2, h3, h4⟩
  refine (number_any true W).mono ?_
  rintro r w1 ⟨rfl, rfl⟩
  have G1 := Kp.mk h1
  have G2 := Kp.mk h2
  have G3 := Kp.mk h3
  have G4 := Kp.mk h4
  clear h1 h2 h3 h4
  go_wp2_with fail
  rw [show (-1 : Int) % 256 = 255 from rfl]
  go_loopw [12] (fun c wr => ∃ i : Nat, i ≤ 16 ∧ c = .int .i64 i ∧ Row wr A 33 .u8 (pk y x i) ∧ Row wr (A + 1) 33 .u8 y ∧ Row wr (A + 2) 33 .u8 (fill 16 []) ∧ Below A w wr) (fun c _ => 16 - (intOf c).toNat)
  case atStart => exact ⟨0, by omega, rfl, G1.out, G2.out, G3.out, G4.out⟩
  case round =>
    obtain ⟨i, hi, rfl, h1, h2, h3, h4⟩ := hrel
    clear G1 G2 G3 G4
    have G1 := Kp.mk h1
    have G2 := Kp.mk h2
    have G3 := Kp.mk h3
    have G4 := Kp.mk h4
    clear h1 h2 h3 h4
    by_cases hlt : i < 16
    · have HI := Kp.mk hlt
      have HG := Kp.mk (pk_get y x i HT.out HX.out hlt)
      have HS := Kp.mk (pk_set y x i HT.out HX.out hlt)
      have HP := Kp.mk (pick8 true (x.getD i 0) (y.getD i 0) (HXB.out.at (by rw [HX.out]; exact hlt)) (HYB.out.at (by rw [HY.out]; exact hlt)))
      have HL : Kp ((pk y x i).length = 16) := ⟨pk_len y x i HT.out HX.out (by omega)⟩
      have hz : (i : Int) < 16 := by omega
      go_wp2_with fail
      refine wp_region_pred (fun w' => Row w' A 33 .u8 (pk y x i) ∧ Row w' (A + 1) 33 .u8 y ∧ Row w' (A + 2) 33 .u8 (fill 16 []) ∧ Below A w w') [0, 1, 2, 3, 4, 5, 6, 7, 8, 9, 10, 11, 12] [13, 14]
        (fun j _ v => match j with
          | 0 => v = .int .i64 i
          | 1 => v = .pointer (some ⟨A, i, none⟩)
          | 2 => v = .int .u8 (x.getD i 0)
          | 3 => v = .int .u8 255
          | 4 => v = .int .i64 i
          | 5 => v = .pointer (some ⟨A, i, none⟩)
          | 6 => v = .int .u8 (x.getD i 0)
          | 7 => v = .int .i64 i
          | 8 => v = .pointer (some ⟨A + 1, i, none⟩)
          | 9 => v = .int .u8 (y.getD i 0)
          | 10 => v = .int .u8 (bits .xor .u8 (x.getD i 0) (y.getD i 0))
          | 11 => v = .int .u8 (bits .and .u8 255 (bits .xor .u8 (x.getD i 0) (y.getD i 0)))
          | _ => v = .int .u8 (bits .xor .u8 (x.getD i 0) (bits .and .u8 255 (bits .xor .u8 (x.getD i 0) (y.getD i 0)))))
        [[], [(0, some 15)], [(1, some 16)], [], [], [(4, some 19)], [(5, some 20)], [], [(7, some 22)], [(8, some 23)], [(6, some 21), (9, some 24)], [(3, some 18), (10, some 25)], [(2, some 17), (11, some 26)]]
        [(0, some 15), (1, some 16), (2, some 17), (3, some 18), (4, some 19), (5, some 20), (6, some 21), (7, some 22), (8, some 23), (9, some 24), (10, some 25), (11, some 26), (12, some 27)]
        (by kernel_rfl) (by kernel_rfl) (by kernel_rfl) (by kernel_rfl) (by kernel_rfl) (by kernel_rfl) (by decide) (by decide) (fun w1 w2 h hb => ⟨h.1.keep hb, h.2.1.keep hb, h.2.2.1.keep hb, h.2.2.2.trans (hb.mono (Nat.le_of_lt h.1.lt))⟩) (fun _ _ _ _ h _ => h) ⟨G1.out.drew, G2.out.drew, G3.out.drew, G4.out.drew⟩ ?_ ?_
      · refine ⟨fun γ wx hS h => ⟨_, rfl, Or.inl ⟨rfl, ?_⟩⟩, fun γ wx hS h => ⟨_, rfl, Or.inl ⟨rfl, ?_⟩⟩, fun γ wx hS h => ⟨_, rfl, Or.inl ⟨rfl, ?_⟩⟩, fun γ wx hS h => ⟨_, rfl, Or.inl ⟨rfl, ?_⟩⟩, fun γ wx hS h => ⟨_, rfl, Or.inl ⟨rfl, ?_⟩⟩, fun γ wx hS h => ⟨_, rfl, Or.inl ⟨rfl, ?_⟩⟩, fun γ wx hS h => ⟨_, rfl, Or.inl ⟨rfl, ?_⟩⟩, fun γ wx hS h => ⟨_, rfl, Or.inl ⟨rfl, ?_⟩⟩, fun γ wx hS h => ⟨_, rfl, Or.inl ⟨rfl, ?_⟩⟩, fun γ wx hS h => ⟨_, rfl, Or.inl ⟨rfl, ?_⟩⟩, fun γ wx hS h => ⟨_, rfl, Or.inl ⟨rfl, ?_⟩⟩, fun γ wx hS h => ⟨_, rfl, Or.inl ⟨rfl, ?_⟩⟩, fun γ wx hS h => ⟨_, rfl, Or.inl ⟨rfl, ?_⟩⟩, trivial⟩
        · exact predRun_value rfl rfl
        · have e0 : γ 0 = .int .i64 i := h
          exact predRun_value (v := .pointer (some ⟨A, i, none⟩)) (by simp only [putE, e0]; go_simp) rfl
        · have e1 : γ 1 = .pointer (some ⟨A, i, none⟩) := h
          have c := hS.1.cell (i := i) (by rw [HL.out]; exact hlt)
          rw [HG.out] at c
          exact predRun_value (v := .int .u8 (x.getD i 0)) (by simp only [putE, e1]; go_simp) rfl
        · exact predRun_value rfl rfl
        · exact predRun_value rfl rfl
        · have e0 : γ 4 = .int .i64 i := h
          exact predRun_value (v := .pointer (some ⟨A, i, none⟩)) (by simp only [putE, e0]; go_simp) rfl
        · have e1 : γ 5 = .pointer (some ⟨A, i, none⟩) := h
          have c := hS.1.cell (i := i) (by rw [HL.out]; exact hlt)
          rw [HG.out] at c
          exact predRun_value (v := .int .u8 (x.getD i 0)) (by simp only [putE, e1]; go_simp) rfl
        · exact predRun_value rfl rfl
        · have e0 : γ 7 = .int .i64 i := h
          exact predRun_value (v := .pointer (some ⟨A + 1, i, none⟩)) (by simp only [putE, e0]; go_simp) rfl
        · have e1 : γ 8 = .pointer (some ⟨A + 1, i, none⟩) := h
          have c := hS.2.1.cell (i := i) (by rw [HY.out]; exact hlt)
          exact predRun_value (v := .int .u8 (y.getD i 0)) (by simp only [putE, e1]; go_simp) rfl
        · obtain ⟨h6, h9⟩ := h
          have e6 : γ 6 = .int .u8 (x.getD i 0) := h6
          have e9 : γ 9 = .int .u8 (y.getD i 0) := h9
          exact predRun_value (v := .int .u8 (bits .xor .u8 (x.getD i 0) (y.getD i 0))) (by simp only [putE, e6, e9]; generalize x.getD i 0 = a; generalize y.getD i 0 = b; go_simp) rfl
        · obtain ⟨h3, h10⟩ := h
          have e3 : γ 3 = .int .u8 255 := h3
          have e10 : γ 10 = .int .u8 (bits .xor .u8 (x.getD i 0) (y.getD i 0)) := h10
          exact predRun_value (v := .int .u8 (bits .and .u8 255 (bits .xor .u8 (x.getD i 0) (y.getD i 0)))) (by simp only [putE, e3, e10]; generalize bits .xor .u8 (x.getD i 0) (y.getD i 0) = b; go_simp) rfl
        · obtain ⟨h2, h11⟩ := h
          have e2 : γ 2 = .int .u8 (x.getD i 0) := h2
          have e11 : γ 11 = .int .u8 (bits .and .u8 255 (bits .xor .u8 (x.getD i 0) (y.getD i 0))) := h11
          exact predRun_value (v := .int .u8 (bits .xor .u8 (x.getD i 0) (bits .and .u8 255 (bits .xor .u8 (x.getD i 0) (y.getD i 0))))) (by simp only [putE, e2, e11]; generalize bits .and .u8 255 (bits .xor .u8 (x.getD i 0) (y.getD i 0)) = b; generalize x.getD i 0 = a; go_simp) rfl
      · intro γ w9 hS h
        have e12 : γ 12 = .int .u8 (bits .xor .u8 (x.getD i 0) (bits .and .u8 255 (bits .xor .u8 (x.getD i 0) (y.getD i 0)))) := h.2.2.2.2.2.2.2.2.2.2.2.2
        have e0 : γ 0 = .int .i64 i := h.1
        have HQ := Kp.mk (show bits .xor .u8 (x.getD i 0) (bits .and .u8 255 (bits .xor .u8 (x.getD i 0) (y.getD i 0))) = (y).getD i 0 from HP.out)
        rw [HQ.out] at e12
        have cw := hS.1.cell (i := i) (by rw [HL.out]; exact hlt)
        have fw := hS.1.frozen i
        have F1 := Kp.mk (hS.1.set i ((y).getD i 0))
        have F2 := Kp.mk (hS.2.1.other (p := ⟨A, i, none⟩) (by show A ≠ A + 1; omega) (.int .u8 ((y).getD i 0)))
        have F3 := Kp.mk (hS.2.2.1.other (p := ⟨A, i, none⟩) (by show A ≠ A + 2; omega) (.int .u8 ((y).getD i 0)))
        have F4 := Kp.mk (hS.2.2.2.setCell (p := ⟨A, i, none⟩) (by exact Nat.le_refl _) (.int .u8 ((y).getD i 0)))
        rw [HS.out] at F1
        simp only [putE, Act.put, List.setIfInBounds_toArray, List.set_cons_zero, List.set_cons_succ]
        rw [e12, e0]
        clear h hS e12 e0 HQ
        generalize (y).getD i 0 = t at *
        refine wpOps_step rfl rfl ?_
        go_simp
        refine wpOps_step rfl rfl ?_
        go_simp
        refine wpOps_done ?_
        clear cw fw
        generalize w9.setCell ⟨A, i, none⟩ (.int .u8 t) = w8 at *
        go_wp2_with fail
        exact ⟨⟨i + 1, by omega, by go_num, F1.out, F2.out, F3.out, F4.out⟩, by simp [intOf]; omega⟩
    · have HI : Kp (i = 16) := ⟨by omega⟩
      have hge : 16 ≤ (i : Int) := by omega
      have G5 : Kp (Row wr A 33 .u8 y) := ⟨by have h := G1.out; rw [HI.out, pk_full _ _ HT.out HX.out] at h; exact h⟩
      have HC := Kp.mk (cells50 HT.out)
      have HZ := Kp.mk (size50 HT.out)
      have HF := Kp.mk (G3.out.setRow y)
      have HBf := Kp.mk (Below.row G4.out (g := A + 2) (by omega) (kv .u8 y).toArray)
      clear hlt hi G1
      go_wp2_with (first
        | (refine wpList_load_row rfl 33 (.tmp 4) rfl A rfl 33 (kv .u8 y).toArray (0, 0) _ G5.out Tryd.underlying33 rfl HC.out ?_)
        | (refine wpList_store_row rfl 33 (.tmp 6) (.tmp 30) rfl (A + 2) (kv .u8 y).toArray rfl rfl 33 _ G3.out HC.out HZ.out (kv_all _ _) ?_))
      refine bodyPost_ret (v := dgV y) ?_ rfl ⟨rfl, by rw [← HA.out]; exact HBf.out⟩
      exact results_cell_row rfl _ _ (A + 2) 33 _ (0, 0) _ rfl HF.out Tryd.underlying33 rfl HC.out
set_option maxRecDepth 100000 in
set_option maxHeartbeats 1000000 in
theorem pick_false (x y : List Int) (w : World) (hx : x.length = 16) (hxb : Bytes x) (hy : y.length = 16) (hyb : Bytes y) :
    Calls Tryd.prog 30 #[.bool false, dgV x, dgV y] w fun r w' => r = .returned (dgV x) ∧ Below w.heap.size w w' := by
  have HX := Kp.mk hx
  have HXB := Kp.mk hxb
  have HY := Kp.mk hy
  have HYB := Kp.mk hyb
  have HT := Kp.mk (show (x).length = 16 from by assumption)
  clear hx hxb hy hyb
  go_enter Tryd.func30, Tryd.ntmps30
  go_wp2_with fail
  obtain ⟨A, hA⟩ : ∃ A, A = w.heap.size := ⟨_, rfl⟩
  have HA := Kp.mk hA
  rw [← hA]
  refine calls_world (fun W => Row W A 33 .u8 (pk x x 0) ∧ Row W (A + 1) 33 .u8 y ∧ Row W (A + 2) 33 .u8 (fill 16 []) ∧ Below A w W) ⟨by rw [pk_zero]; exact Blk.old (Blk.old (Blk.newAt _ hA) _) _, Blk.old (Blk.newAt _ (by simp [hA])) _, Blk.newAt _ (by simp [hA]), by rw [hA]; exact more (more (more (Below.refl _ _) _) _) _⟩ ?_
  rw [show A + 1 + 1 = A + 2 from rfl]
  clear hA
  rintro W ⟨h1, h2, h3, h4⟩
  refine (number_any false W).mono ?_
  rintro r w1 ⟨rfl, rfl⟩
  have G1 := Kp.mk h1
  have G2 := Kp.mk h2
  have G3 := Kp.mk h3
  have G4 := Kp.mk h4
  clear h1 h2 h3 h4
  go_wp2_with fail
  go_loopw [12] (fun c wr => ∃ i : Nat, i ≤ 16 ∧ c = .int .i64 i ∧ Row wr A 33 .u8 (pk x x i) ∧ Row wr (A + 1) 33 .u8 y ∧ Row wr (A + 2) 33 .u8 (fill 16 []) ∧ Below A w wr) (fun c _ => 16 - (intOf c).toNat)
  case atStart => exact ⟨0, by omega, rfl, G1.out, G2.out, G3.out, G4.out⟩
  case round =>
    obtain ⟨i, hi, rfl, h1, h2, h3, h4⟩ := hrel
    clear G1 G2 G3 G4
    have G1 := Kp.mk h1
    have G2 := Kp.mk h2
    have G3 := Kp.mk h3
    have G4 := Kp.mk h4
    clear h1 h2 h3 h4
    by_cases hlt : i < 16
    · have HI := Kp.mk hlt
      have HG := Kp.mk (pk_get x x i HT.out HX.out hlt)
      have HS := Kp.mk (pk_set x x i HT.out HX.out hlt)
      have HP := Kp.mk (pick8 false (x.getD i 0) (y.getD i 0) (HXB.out.at (by rw [HX.out]; exact hlt)) (HYB.out.at (by rw [HY.out]; exact hlt)))
      have HL : Kp ((pk x x i).length = 16) := ⟨pk_len x x i HT.out HX.out (by omega)⟩
      have hz : (i : Int) < 16 := by omega
      go_wp2_with fail
      refine wp_region_pred (fun w' => Row w' A 33 .u8 (pk x x i) ∧ Row w' (A + 1) 33 .u8 y ∧ Row w' (A + 2) 33 .u8 (fill 16 []) ∧ Below A w w') [0, 1, 2, 3, 4, 5, 6, 7, 8, 9, 10, 11, 12] [13, 14]
        (fun j _ v => match j with
          | 0 => v = .int .i64 i
          | 1 => v = .pointer (some ⟨A, i, none⟩)
          | 2 => v = .int .u8 (x.getD i 0)
          | 3 => v = .int .u8 0
          | 4 => v = .int .i64 i
          | 5 => v = .pointer (some ⟨A, i, none⟩)
          | 6 => v = .int .u8 (x.getD i 0)
          | 7 => v = .int .i64 i
          | 8 => v = .pointer (some ⟨A + 1, i, none⟩)
          | 9 => v = .int .u8 (y.getD i 0)
          | 10 => v = .int .u8 (bits .xor .u8 (x.getD i 0) (y.getD i 0))
          | 11 => v = .int .u8 (bits .and .u8 0 (bits .xor .u8 (x.getD i 0) (y.getD i 0)))
          | _ => v = .int .u8 (bits .xor .u8 (x.getD i 0) (bits .and .u8 0 (bits .xor .u8 (x.getD i 0) (y.getD i 0)))))
        [[], [(0, some 15)], [(1, some 16)], [], [], [(4, some 19)], [(5, some 20)], [], [(7, some 22)], [(8, some 23)], [(6, some 21), (9, some 24)], [(3, some 18), (10, some 25)], [(2, some 17), (11, some 26)]]
        [(0, some 15), (1, some 16), (2, some 17), (3, some 18), (4, some 19), (5, some 20), (6, some 21), (7, some 22), (8, some 23), (9, some 24), (10, some 25), (11, some 26), (12, some 27)]
        (by kernel_rfl) (by kernel_rfl) (by kernel_rfl) (by kernel_rfl) (by kernel_rfl) (by kernel_rfl) (by decide) (by decide) (fun w1 w2 h hb => ⟨h.1.keep hb, h.2.1.keep hb, h.2.2.1.keep hb, h.2.2.2.trans (hb.mono (Nat.le_of_lt h.1.lt))⟩) (fun _ _ _ _ h _ => h) ⟨G1.out.drew, G2.out.drew, G3.out.drew, G4.out.drew⟩ ?_ ?_
      · refine ⟨fun γ wx hS h => ⟨_, rfl, Or.inl ⟨rfl, ?_⟩⟩, fun γ wx hS h => ⟨_, rfl, Or.inl ⟨rfl, ?_⟩⟩, fun γ wx hS h => ⟨_, rfl, Or.inl ⟨rfl, ?_⟩⟩, fun γ wx hS h => ⟨_, rfl, Or.inl ⟨rfl, ?_⟩⟩, fun γ wx hS h => ⟨_, rfl, Or.inl ⟨rfl, ?_⟩⟩, fun γ wx hS h => ⟨_, rfl, Or.inl ⟨rfl, ?_⟩⟩, fun γ wx hS h => ⟨_, rfl, Or.inl ⟨rfl, ?_⟩⟩, fun γ wx hS h => ⟨_, rfl, Or.inl ⟨rfl, ?_⟩⟩, fun γ wx hS h => ⟨_, rfl, Or.inl ⟨rfl, ?_⟩⟩, fun γ wx hS h => ⟨_, rfl, Or.inl ⟨rfl, ?_⟩⟩, fun γ wx hS h => ⟨_, rfl, Or.inl ⟨rfl, ?_⟩⟩, fun γ wx hS h => ⟨_, rfl, Or.inl ⟨rfl, ?_⟩⟩, fun γ wx hS h => ⟨_, rfl, Or.inl ⟨rfl, ?_⟩⟩, trivial⟩
        · exact predRun_value rfl rfl
        · have e0 : γ 0 = .int .i64 i := h
          exact predRun_value (v := .pointer (some ⟨A, i, none⟩)) (by simp only [putE, e0]; go_simp) rfl
        · have e1 : γ 1 = .pointer (some ⟨A, i, none⟩) := h
          have c := hS.1.cell (i := i) (by rw [HL.out]; exact hlt)
          rw [HG.out] at c
          exact predRun_value (v := .int .u8 (x.getD i 0)) (by simp only [putE, e1]; go_simp) rfl
        · exact predRun_value rfl rfl
        · exact predRun_value rfl rfl
        · have e0 : γ 4 = .int .i64 i := h
          exact predRun_value (v := .pointer (some ⟨A, i, none⟩)) (by simp only [putE, e0]; go_simp) rfl
        · have e1 : γ 5 = .pointer (some ⟨A, i, none⟩) := h
          have c := hS.1.cell (i := i) (by rw [HL.out]; exact hlt)
          rw [HG.out] at c
          exact predRun_value (v := .int .u8 (x.getD i 0)) (by simp only [putE, e1]; go_simp) rfl
        · exact predRun_value rfl rfl
        · have e0 : γ 7 = .int .i64 i := h
          exact predRun_value (v := .pointer (some ⟨A + 1, i, none⟩)) (by simp only [putE, e0]; go_simp) rfl
        · have e1 : γ 8 = .pointer (some ⟨A + 1, i, none⟩) := h
          have c := hS.2.1.cell (i := i) (by rw [HY.out]; exact hlt)
          exact predRun_value (v := .int .u8 (y.getD i 0)) (by simp only [putE, e1]; go_simp) rfl
        · obtain ⟨h6, h9⟩ := h
          have e6 : γ 6 = .int .u8 (x.getD i 0) := h6
          have e9 : γ 9 = .int .u8 (y.getD i 0) := h9
          exact predRun_value (v := .int .u8 (bits .xor .u8 (x.getD i 0) (y.getD i 0))) (by simp only [putE, e6, e9]; generalize x.getD i 0 = a; generalize y.getD i 0 = b; go_simp) rfl
        · obtain ⟨h3, h10⟩ := h
          have e3 : γ 3 = .int .u8 0 := h3
          have e10 : γ 10 = .int .u8 (bits .xor .u8 (x.getD i 0) (y.getD i 0)) := h10
          exact predRun_value (v := .int .u8 (bits .and .u8 0 (bits .xor .u8 (x.getD i 0) (y.getD i 0)))) (by simp only [putE, e3, e10]; generalize bits .xor .u8 (x.getD i 0) (y.getD i 0) = b; go_simp) rfl
        · obtain ⟨h2, h11⟩ := h
          have e2 : γ 2 = .int .u8 (x.getD i 0) := h2
          have e11 : γ 11 = .int .u8 (bits .and .u8 0 (bits .xor .u8 (x.getD i 0) (y.getD i 0))) := h11
          exact predRun_value (v := .int .u8 (bits .xor .u8 (x.getD i 0) (bits .and .u8 0 (bits .xor .u8 (x.getD i 0) (y.getD i 0))))) (by simp only [putE, e2, e11]; generalize bits .and .u8 0 (bits .xor .u8 (x.getD i 0) (y.getD i 0)) = b; generalize x.getD i 0 = a; go_simp) rfl
      · intro γ w9 hS h
        have e12 : γ 12 = .int .u8 (bits .xor .u8 (x.getD i 0) (bits .and .u8 0 (bits .xor .u8 (x.getD i 0) (y.getD i 0)))) := h.2.2.2.2.2.2.2.2.2.2.2.2
        have e0 : γ 0 = .int .i64 i := h.1
        have HQ := Kp.mk (show bits .xor .u8 (x.getD i 0) (bits .and .u8 0 (bits .xor .u8 (x.getD i 0) (y.getD i 0))) = (x).getD i 0 from HP.out)
        rw [HQ.out] at e12
        have cw := hS.1.cell (i := i) (by rw [HL.out]; exact hlt)
        have fw := hS.1.frozen i
        have F1 := Kp.mk (hS.1.set i ((x).getD i 0))
        have F2 := Kp.mk (hS.2.1.other (p := ⟨A, i, none⟩) (by show A ≠ A + 1; omega) (.int .u8 ((x).getD i 0)))
        have F3 := Kp.mk (hS.2.2.1.other (p := ⟨A, i, none⟩) (by show A ≠ A + 2; omega) (.int .u8 ((x).getD i 0)))
        have F4 := Kp.mk (hS.2.2.2.setCell (p := ⟨A, i, none⟩) (by exact Nat.le_refl _) (.int .u8 ((x).getD i 0)))
        rw [HS.out] at F1
        simp only [putE, Act.put, List.setIfInBounds_toArray, List.set_cons_zero, List.set_cons_succ]
        rw [e12, e0]
        clear h hS e12 e0 HQ
        generalize (x).getD i 0 = t at *
        refine wpOps_step rfl rfl ?_
        go_simp
        refine wpOps_step rfl rfl ?_
        go_simp
        refine wpOps_done ?_
        clear cw fw
        generalize w9.setCell ⟨A, i, none⟩ (.int .u8 t) = w8 at *
        go_wp2_with fail
        exact ⟨⟨i + 1, by omega, by go_num, F1.out, F2.out, F3.out, F4.out⟩, by simp [intOf]; omega⟩
    · have HI : Kp (i = 16) := ⟨by omega⟩
      have hge : 16 ≤ (i : Int) := by omega
      have G5 : Kp (Row wr A 33 .u8 x) := ⟨by have h := G1.out; rw [HI.out, pk_full _ _ HT.out HX.out] at h; exact h⟩
      have HC := Kp.mk (cells50 HT.out)
      have HZ := Kp.mk (size50 HT.out)
      have HF := Kp.mk (G3.out.setRow x)
      have HBf := Kp.mk (Below.row G4.out (g := A + 2) (by omega) (kv .u8 x).toArray)
      clear hlt hi G1
      go_wp2_with (first
        | (refine wpList_load_row rfl 33 (.tmp 4) rfl A rfl 33 (kv .u8 x).toArray (0, 0) _ G5.out Tryd.underlying33 rfl HC.out ?_)
        | (refine wpList_store_row rfl 33 (.tmp 6) (.tmp 30) rfl (A + 2) (kv .u8 x).toArray rfl rfl 33 _ G3.out HC.out HZ.out (kv_all _ _) ?_))
      refine bodyPost_ret (v := dgV x) ?_ rfl ⟨rfl, by rw [← HA.out]; exact HBf.out⟩
      exact results_cell_row rfl _ _ (A + 2) 33 _ (0, 0) _ rfl HF.out Tryd.underlying33 rfl HC.out
end Go.Proofs.YtahmioiefmheeaaDoor

namespace Go.Proofs.YtahmioiefmheeaaDoor
open Go.RowKit

set_option maxRecDepth 100000 in
theorem app_run (w : World) (g : Nat) (hg : Blk w g (.cells #[] 5)) (M : Nat) (u : Value) (p : List Int) (hp : HoldsB w M u p) (hlen : p.length ≤ 140737488355328) :
    ∃ v' w', (Builtin.append_ #[22, 22] 22 #[.slice (some ⟨g, 0, none⟩) 0 0, u]).run Tryd.prog w = .ok v' w' ∧ Below w.heap.size w w' ∧ HoldsB w' w'.heap.size v' p := by
  obtain ⟨i0, hi, hz0, hz1, hz2⟩ := info_parts info5
  obtain ⟨ad, m, cap, rfl, hm⟩ := hp.slice
  by_cases h0 : p = []
  · subst h0
    have hm0 : m = 0 := by simpa using hm
    subst hm0
    have hh : HoldsB w w.heap.size (.slice (some ⟨g, 0, none⟩) 0 0) [] := ⟨_, 0, rfl, Nat.le_refl _, by unfold maxLen; omega, (fun e => by cases e), (fun x hx h => by simp at h), (fun x i hx hi => by simp at hi), Bytes.nil⟩
    refine ⟨.slice (some ⟨g, 0, none⟩) 0 0, w, ?_, Below.refl _ _, hh⟩
    cases ad with
    | none =>
      obtain ⟨_, _, e, _, _, hc, _⟩ := hp
      simp only [Value.slice.injEq] at e
      have := hc e.1.symm
      rw [e.2.2, this]
      exact run_append_owned_none (w := w) g 22 22 5 i0 1 Tryd.underlying22 hi _ 0 [] ⟨rfl, .inr ⟨g, 0, #[], rfl, Nat.le_refl _, hg, Nat.le_refl _, by unfold maxLen; omega, rfl, rfl⟩⟩
    | some ad =>
      have hf := run_firstCells_some (P := Tryd.prog) w i0.size 0 ad 0 cap [] (by simp) (by simp)
      simp [Builtin.append_, run_underlying Tryd.underlying22, sizeOf, typeInfo, hi, Builtin.lenOf, hf, storeCells]
  · have hpos : 0 < p.length := by cases p with | nil => exact absurd rfl h0 | cons => simp
    cases ad with
    | none =>
      obtain ⟨_, _, e, hle, _, hc, _⟩ := hp
      simp only [Value.slice.injEq] at e
      have := hc e.1.symm
      omega
    | some ad =>
      obtain ⟨v', w', hrun, r1, r2⟩ := run_append_arg_grows (P := Tryd.prog) w 22 22 5 i0 (.int .u8 0) 1 1 Tryd.underlying22 hi hz0 hz1 hz2 rfl (by decide) ⟨g, 0, none⟩ 0 0 [] rfl (fun j u h => by simp at h) ad m cap (bv p) (by rw [bv_len]; omega) hp.news (by omega) (by unfold maxLen; omega) (by omega)
      refine ⟨v', w', hrun, ⟨r2.os, r2.tape, r2.output, r2.size, fun k hk => r2.block k hk (by simp)⟩, ?_⟩
      rw [Nat.zero_add, hm, List.nil_append] at r1
      exact HoldsB.ofRow hp.bytes r1
theorem exec_append {o : Oper} {a : Act} {w w' : World} {s x : Operand} {u v v' : Value} (ho : o.op = .call { callee := .builtin .append, args := #[s, x], argTypes := #[22, 22] })
    (hs : a.eval s = v) (hx : a.eval x = u) (hr : (Builtin.append_ #[22, 22] o.type #[v, u]).run Tryd.prog w = .ok v' w') : (execOp a.eval o).run Tryd.prog w = .ok (.value v') w' := by
  unfold execOp
  simp only [ho, resolve, invoke, builtin, Sem.run_bind, Sem.run_pure, Result.andThen_ok, List.map_toArray, List.map_cons, List.map_nil, hs, hx, hr]
theorem bytes_inj {p q : List Int} (hp : Bytes p) (hq : Bytes q) : (p.map fun n => UInt8.ofNat n.toNat) = (q.map fun n => UInt8.ofNat n.toNat) ↔ p = q := by
  refine ⟨fun h => ?_, fun h => by rw [h]⟩
  induction p generalizing q with
  | nil => cases q with
    | nil => rfl
    | cons y r => simp at h
  | cons x p ih => cases q with
    | nil => simp at h
    | cons y r =>
      simp only [List.map_cons, List.cons.injEq] at h
      have hx := hp x (by simp)
      have hy := hq y (by simp)
      have h1 := congrArg UInt8.toNat h.1
      rw [UInt8.toNat_ofNat', UInt8.toNat_ofNat'] at h1
      have e : x = y := by omega
      rw [e, ih (fun z hz => hp z (List.mem_cons_of_mem _ hz)) (fun z hz => hq z (List.mem_cons_of_mem _ hz)) h.2]
theorem text_eq {p q : List Int} (hp : Bytes p) (hq : Bytes q) : ((strOfNums p).toList == (strOfNums q).toList) = decide (p = q) := by
  rw [Bool.eq_iff_iff, beq_iff_eq, decide_eq_true_iff]
  refine ⟨fun h => (bytes_inj hp hq).1 ?_, fun h => by rw [h]⟩
  have h2 : (strOfNums p).data.toList = (strOfNums q).data.toList := by
    rw [ByteArray.toList_eq, ByteArray.toList_eq] at h
    exact h
  exact h2
theorem eq32 {p q : List Int} (hp : Bytes p) (hq : Bytes q) (h : p.length = 16) (g : q.length = 16) (w : World) : (binOp .eql 32 (dgV p) (dgV q)).run Tryd.prog w = .ok (.bool (decide (p = q))) w := by
  have := run_equalIn_bytes (P := Tryd.prog) w 9998 32 5 16 Tryd.underlying32 Tryd.underlying5 size5 (p.map fun n => UInt8.ofNat n.toNat) (q.map fun n => UInt8.ofNat n.toNat) (by simp [h]) (by simp [g])
  rw [bv_cells hp, bv_cells hq] at this
  have e : ((p.map fun n => UInt8.ofNat n.toNat) == (q.map fun n => UInt8.ofNat n.toNat)) = decide (p = q) := by
    rw [Bool.eq_iff_iff, beq_iff_eq, decide_eq_true_iff]
    exact bytes_inj hp hq
  rw [e] at this
  rw [run_eql_struct, this]
  rfl
theorem eqg32 (p q : List Int) (x y : Operand) (w : World) : (eqGuard .eql 32 x y (dgV p) (dgV q)).run Tryd.prog w = .ok () w := by kernel_rfl
end Go.Proofs.YtahmioiefmheeaaDoor
