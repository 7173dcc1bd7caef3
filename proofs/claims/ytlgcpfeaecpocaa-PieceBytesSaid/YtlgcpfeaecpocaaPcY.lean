/-
  Any piece's bytes, and the piece of any bytes: the walk.
-/
import Derived.Test.YtlgcpfeaecpocaaPcX
namespace Go.Proofs.Ytlgcpfeaecpocaa
open Go.RowKit

theorem exec_load_row {P : Program} {o : Oper} {a : Act} {w : World} {ty : TypeId} {x : Operand} {g : Nat} {t : TypeId} {cs : Array Value} {fr : Nat × Nat} {d : TypeDesc} (ho : o.op = .load ty x) (hx : a.eval x = .pointer (some ⟨g, 0, none⟩)) (hg : w.heap[g]? = some (.cells cs t fr))
    (hu : P.underlying ty = some d) (hd : (match d with | .struct _ | .array _ _ => true | _ => false) = true) (hi : (P.info? ty).map (·.size) = some cs.size) : (execOp a.eval o).run P w = .ok (.value (.agg cs)) w := by
  unfold execOp
  simp only [ho, hx, Instr.loadAt, Instr.sureAddr, Sem.run_bind, Sem.run_pure, Result.andThen_ok, run_loadVar_row w g t ty cs fr d hg hu hd hi]
def putE' (p : PV) : Int := if rightB p = true then 0 else 1
def putX (p : PV) (tp : List Int) : List Int := if rightB p = true then putM p tp else []
def PutPost (p : PV) (tp : List Int) (w : World) (r : Ending) (w' : World) : Prop :=
  ∃ a n c, r = .returned (.tuple #[.slice a n c, .int .i64 (putE' p)]) ∧ HoldsB w' w'.heap.size (.slice a n c) (putX p tp) ∧ Below w.heap.size w w'
theorem put_all (p : PV) (tp : List Int) (w : World) (h : HoldsB w w.heap.size (.slice p.a p.n p.c) tp) (hid : 0 ≤ p.id ∧ p.id ≤ 4294967295) : Calls Try.prog 9 #[p.v] w (PutPost p tp w) := by
  unfold PutPost putE' putX
  cases hr : rightB p with
  | true =>
    refine (put_good p tp w h hr hid).mono ?_
    rintro r w' ⟨v, rfl, h1, h2⟩
    obtain ⟨a, n, c, rfl, -⟩ := h1.slice
    exact ⟨a, n, c, rfl, h1, h2⟩
  | false =>
    refine (put_bad p w hr).mono ?_
    rintro r w' ⟨rfl, h2⟩
    exact ⟨none, 0, 0, rfl, HoldsB.nil _ _, h2⟩
theorem rput_all (p : PV) (tp : List Int) (w : World) (h : HoldsB w w.heap.size (.slice p.a p.n p.c) tp) (hid : 0 ≤ p.id ∧ p.id ≤ 4294967295) : Calls Try.prog 11 #[p.v] w (PutPost p tp w) := by
  unfold PutPost putE' putX
  cases hr : rightB p with
  | true =>
    refine (rput_good p tp w h hr hid).mono ?_
    rintro r w' ⟨v, rfl, h1, h2⟩
    obtain ⟨a, n, c, rfl, -⟩ := h1.slice
    exact ⟨a, n, c, rfl, h1, h2⟩
  | false =>
    refine (rput_bad p w hr).mono ?_
    rintro r w' ⟨rfl, h2⟩
    exact ⟨none, 0, 0, rfl, HoldsB.nil _ _, h2⟩
set_option maxRecDepth 100000 in
set_option maxHeartbeats 2000000 in
theorem bytes_long (p : PV) (v : Value) (w : World) (h : 5000 < p.n) : Calls Try.prog 3 #[p.v, v] w fun r w' => r = .returned (.bool true) ∧ Below w.heap.size w w' := by
  have h1 : (5000 : Int) < p.n := by omega
  go_enter Try.func3, Try.ntmps3
  go_wp2_with fail
  refine (awake_any _).mono ?_
  rintro r w3 ⟨rfl, hb⟩
  have HB : Kp (Below w.heap.size w w3) := ⟨(more (Below.refl _ _) _).trans (hb.mono (by simp))⟩
  clear hb
  go_wp2_with fail
  go_ret
  exact ⟨rfl, HB.out⟩
set_option maxRecDepth 100000 in
set_option maxHeartbeats 4000000 in
theorem pieceBytes_walk (p : PV) (tp : List Int) (a : Option Addr) (len cap : Nat) (bl : List Int) (w : World) (h : HoldsB w w.heap.size (.slice p.a p.n p.c) tp) (hid : 0 ≤ p.id ∧ p.id ≤ 4294967295) (_ : I64 p.at_ ∧ I64 p.many) (_ : tp.length ≤ 140737488351232) (hb : HoldsB w w.heap.size (.slice a len cap) bl) (hr : len ≤ 140737488351232) :
    Calls Try.prog 3 #[p.v, .slice a len cap] w fun r w' => r = .returned (.bool true) ∧ Below w.heap.size w w' := by
  by_cases hn : 5000 < p.n
  · exact bytes_long p _ w hn
  have H := Kp.mk h
  have HBL := Kp.mk hb
  have HID := Kp.mk hid
  have hpn : p.n = tp.length := by
    obtain ⟨a1, n1, c1, e1, e2⟩ := h.slice
    simp only [Value.slice.injEq] at e1
    omega
  have hln : len = bl.length := by
    obtain ⟨a1, n1, c1, e1, e2⟩ := hb.slice
    simp only [Value.slice.injEq] at e1
    omega
  have HTP : Kp (tp.length ≤ 140737488351232) := ⟨by omega⟩
  have HLB : Kp (bl.length ≤ 140737488351232) := ⟨by omega⟩
  have hn' : ¬ (5000 : Int) < p.n := by omega
  clear h hb hid hpn hln hn
  go_enter Try.func3, Try.ntmps3
  go_wp2_with fail
  obtain ⟨F, hF⟩ : ∃ F, F = w.heap.size := ⟨_, rfl⟩
  have HFe := Kp.mk hF
  have HP0 : Kp (Blk (w.alloc (.cells #[.int .u32 p.id, .int .i64 p.at_, .int .i64 p.many, .slice p.a p.n p.c] 25)) F (.cells #[.int .u32 p.id, .int .i64 p.at_, .int .i64 p.many, .slice p.a p.n p.c] 25)) := ⟨Blk.newAt _ hF⟩
  have HB0 : Kp (Below w.heap.size w (w.alloc (.cells #[.int .u32 p.id, .int .i64 p.at_, .int .i64 p.many, .slice p.a p.n p.c] 25))) := ⟨more (Below.refl _ _) _⟩
  refine (to_any p tp _ (H.out.grow HB0.out) HTP.out).mono ?_
  rintro r w1 ⟨ta, tc, rfl, ho, hb⟩
  have HT1 : Kp (HoldsB w1 w1.heap.size (.slice ta p.n tc) tp) := ⟨HoldsB.ofRow H.out.bytes ho⟩
  have HB1 : Kp (Below w.heap.size w w1) := ⟨HB0.out.trans (hb.mono HB0.out.size)⟩
  have HP1 : Kp (Blk w1 F (.cells #[.int .u32 p.id, .int .i64 p.at_, .int .i64 p.many, .slice p.a p.n p.c] 25)) := ⟨HP0.out.keep hb⟩
  rw [← hF]
  clear ho hb HB0 HP0 hF
  go_wp2_with fail
  refine (put_all ⟨p.id, p.at_, p.many, ta, p.n, tc⟩ tp w1 HT1.out HID.out).mono ?_
  rintro r w2 ⟨xa, xn, xc, rfl, hx, hb⟩
  have HX2 : Kp (HoldsB w2 w2.heap.size (.slice xa xn xc) (putX p tp)) := ⟨hx⟩
  have HB2 : Kp (Below w.heap.size w w2) := ⟨HB1.out.trans (hb.mono HB1.out.size)⟩
  have HP2 : Kp (Blk w2 F (.cells #[.int .u32 p.id, .int .i64 p.at_, .int .i64 p.many, .slice p.a p.n p.c] 25)) := ⟨HP1.out.keep hb⟩
  rw [show putE' ⟨p.id, p.at_, p.many, ta, p.n, tc⟩ = putE' p from rfl]
  clear hx hb HB1 HP1 HT1
  go_wp2_with (refine wpList_load_row rfl 25 (.tmp 2) rfl F rfl 25 #[.int .u32 p.id, .int .i64 p.at_, .int .i64 p.many, .slice p.a p.n p.c] (0, 0) _ HP2.out Try.underlying25 rfl info25s ?_)
  refine (rput_all p tp w2 (H.out.grow HB2.out) HID.out).mono ?_
  rintro r w3 ⟨ya, yn, yc, rfl, hy, hb⟩
  have HY3 := Kp.mk hy
  have HX3 : Kp (HoldsB w3 w3.heap.size (.slice xa xn xc) (putX p tp)) := ⟨HX2.out.grow hb⟩
  have HB3 : Kp (Below w.heap.size w w3) := ⟨HB2.out.trans (hb.mono HB2.out.size)⟩
  obtain ⟨e, he⟩ : ∃ e, e = putE' p := ⟨_, rfl⟩
  rw [← he]
  obtain ⟨L, hL⟩ : ∃ L, L = putX p tp := ⟨_, rfl⟩
  rw [← hL] at HX3 HY3
  clear hy hb HB2 HP2 HX2 he hL
  go_wp2_with fail
  refine (get_any w.heap.size _ bl w3 (HBL.out.keep HB3.out) HLB.out).mono ?_
  rintro r w4 ⟨za, zc, rfl, hz, hb⟩
  have HY4 : Kp (HoldsB w4 w4.heap.size (.slice ya yn yc) L) := ⟨HY3.out.grow hb⟩
  have HX4 : Kp (HoldsB w4 w4.heap.size (.slice xa xn xc) L) := ⟨HX3.out.grow hb⟩
  have HB4 : Kp (Below w.heap.size w w4) := ⟨HB3.out.trans (hb.mono HB3.out.size)⟩
  have HZ4 := Kp.mk hz
  obtain ⟨z1, h1⟩ : ∃ z1, z1 = gX bl (gN1 bl) := ⟨_, rfl⟩
  obtain ⟨z2, h2⟩ : ∃ z2, z2 = gX bl (gN2 bl) := ⟨_, rfl⟩
  obtain ⟨z3, h3⟩ : ∃ z3, z3 = gX bl (gN3 bl) := ⟨_, rfl⟩
  obtain ⟨T, hT⟩ : ∃ T, T = gT bl := ⟨_, rfl⟩
  obtain ⟨zn, hzn⟩ : ∃ zn, zn = T.length := ⟨_, rfl⟩
  obtain ⟨g, hg⟩ : ∃ g, g = getE bl := ⟨_, rfl⟩
  rw [← hT, ← hzn] at HZ4
  rw [← h1, ← h2, ← h3, ← hT, ← hg, ← hzn]
  have HE := Kp.mk (And.intro h1 (And.intro h2 (And.intro h3 (And.intro hT (And.intro hg hzn)))))
  clear hz hb HX3 HY3 HB3 h1 h2 h3 hT hg hzn
  have H1C : Kp ((#[.int .u32 z1, .int .i64 z2, .int .i64 z3, .slice za zn zc] : Array Value).all (·.oneCell') = true) := ⟨one4 _ _ _ _ _ _⟩
  go_wp2_with fail
  obtain ⟨Z, hZ⟩ : ∃ Z, Z = w4.heap.size := ⟨_, rfl⟩
  obtain ⟨W5, hW5⟩ : ∃ W5, W5 = w4.alloc (.cells #[.int .u32 z1, .int .i64 z2, .int .i64 z3, .slice za zn zc] 30) := ⟨_, rfl⟩
  rw [← hZ, ← hW5]
  have HX5 : Kp (HoldsB W5 W5.heap.size (.slice xa xn xc) L) := ⟨by rw [hW5]; exact HX4.out.grow (more (Below.refl _ _) _)⟩
  have HY5 : Kp (HoldsB W5 W5.heap.size (.slice ya yn yc) L) := ⟨by rw [hW5]; exact HY4.out.grow (more (Below.refl _ _) _)⟩
  have HZT5 : Kp (HoldsB W5 W5.heap.size (.slice za zn zc) T) := ⟨by rw [hW5]; exact HZ4.out.grow (more (Below.refl _ _) _)⟩
  have HZ5 : Kp (Blk W5 Z (.cells #[.int .u32 z1, .int .i64 z2, .int .i64 z3, .slice za zn zc] 30)) := ⟨by rw [hW5]; exact Blk.newAt _ hZ⟩
  have HB5 : Kp (Below w.heap.size w W5) := ⟨by rw [hW5]; exact HB4.out.alloc HB4.out.size _⟩
  clear hZ hW5 HX4 HY4 HZ4 HB4 H1C
  refine (rget_any w.heap.size _ bl W5 (HBL.out.keep HB5.out) HB5.out.size).mono ?_
  rintro r w6 ⟨da, dc, rfl, hd, hb⟩
  have HX6 : Kp (HoldsB w6 w6.heap.size (.slice xa xn xc) L) := ⟨HX5.out.grow hb⟩
  have HY6 : Kp (HoldsB w6 w6.heap.size (.slice ya yn yc) L) := ⟨HY5.out.grow hb⟩
  have HZT6 : Kp (HoldsB w6 w6.heap.size (.slice za zn zc) T) := ⟨HZT5.out.grow hb⟩
  have HZ6 : Kp (Blk w6 Z (.cells #[.int .u32 z1, .int .i64 z2, .int .i64 z3, .slice za zn zc] 30)) := ⟨HZ5.out.keep hb⟩
  have HB6 : Kp (Below w.heap.size w w6) := ⟨HB5.out.trans (hb.mono HB5.out.size)⟩
  have HDT6 := Kp.mk hd
  rw [← HE.out.2.2.2.1, ← HE.out.2.2.2.2.2] at HDT6
  rw [← HE.out.1, ← HE.out.2.1, ← HE.out.2.2.1, ← HE.out.2.2.2.1, ← HE.out.2.2.2.2.1, ← HE.out.2.2.2.2.2]
  clear hd hb HX5 HY5 HZT5 HZ5 HB5 HE
  go_wp2_with fail
  obtain ⟨D, hD⟩ : ∃ D, D = w6.heap.size := ⟨_, rfl⟩
  obtain ⟨W7, hW7⟩ : ∃ W7, W7 = w6.alloc (.cells #[.int .u32 z1, .int .i64 z2, .int .i64 z3, .slice da zn dc] 25) := ⟨_, rfl⟩
  rw [← hD, ← hW7]
  have HX : Kp (HoldsB W7 W7.heap.size (.slice xa xn xc) L) := ⟨by rw [hW7]; exact HX6.out.grow (more (Below.refl _ _) _)⟩
  have HY : Kp (HoldsB W7 W7.heap.size (.slice ya yn yc) L) := ⟨by rw [hW7]; exact HY6.out.grow (more (Below.refl _ _) _)⟩
  have HZT : Kp (HoldsB W7 W7.heap.size (.slice za zn zc) T) := ⟨by rw [hW7]; exact HZT6.out.grow (more (Below.refl _ _) _)⟩
  have HDT : Kp (HoldsB W7 W7.heap.size (.slice da zn dc) T) := ⟨by rw [hW7]; exact HDT6.out.grow (more (Below.refl _ _) _)⟩
  have HZ : Kp (Blk W7 Z (.cells #[.int .u32 z1, .int .i64 z2, .int .i64 z3, .slice za zn zc] 30)) := ⟨by rw [hW7]; exact HZ6.out.old _⟩
  have HD : Kp (Blk W7 D (.cells #[.int .u32 z1, .int .i64 z2, .int .i64 z3, .slice da zn dc] 25)) := ⟨by rw [hW7]; exact Blk.newAt _ hD⟩
  have HB : Kp (Below w.heap.size w W7) := ⟨by rw [hW7]; exact HB6.out.alloc HB6.out.size _⟩
  obtain ⟨sx, hsx⟩ : ∃ sx, sx = strOfNums L := ⟨_, rfl⟩
  have HSX := Kp.mk hsx
  clear hD hW7 hsx HX6 HY6 HZT6 HZ6 HB6 HDT6
  refine wp_region_pred (fun w' => HoldsB w' w'.heap.size (.slice xa xn xc) L ∧ HoldsB w' w'.heap.size (.slice ya yn yc) L ∧ Blk w' Z (.cells #[.int .u32 z1, .int .i64 z2, .int .i64 z3, .slice za zn zc] 30) ∧ Blk w' D (.cells #[.int .u32 z1, .int .i64 z2, .int .i64 z3, .slice da zn dc] 25) ∧ HoldsB w' w'.heap.size (.slice za zn zc) T ∧ HoldsB w' w'.heap.size (.slice da zn dc) T ∧ Below w.heap.size w w') [0, 1, 2, 3, 4, 5, 6, 7, 8, 9, 10, 11, 12, 13, 14, 15, 16, 17, 18, 19, 20, 21, 22, 23] [24]
    (fun ι w' v => match ι with
      | 2 | 3 => v = .int .i64 e
      | 7 => v = .slice xa xn xc
      | 8 | 10 => v = .string sx
      | 9 => v = .slice ya yn yc
      | 14 | 15 => v = .int .i64 g
      | 19 | 20 => v = .agg #[.int .u32 z1, .int .i64 z2, .int .i64 z3, .slice za zn zc]
      | 21 => v = .agg #[.int .u32 z1, .int .i64 z2, .int .i64 z3, .slice da zn dc]
      | _ => v = .bool true)
    [[], [(0, some 39)], [(1, some 40)], [(1, some 40)], [(1, some 40), (2, some 41), (3, some 42)], [(1, some 40), (4, some 43)], [(1, some 40), (5, some 44)], [(6, some 45)], [(6, some 45), (7, some 46)], [(6, some 45)], [(6, some 45), (9, some 48)], [(6, some 45), (8, some 47), (10, some 49)], [(6, some 45), (11, some 50)], [(6, some 45), (12, some 51)], [(13, some 52)], [(13, some 52)], [(13, some 52), (14, some 53), (15, some 54)], [(13, some 52), (16, some 55)], [(13, some 52), (17, some 56)], [(18, some 57)], [(18, some 57), (19, some 58)], [(18, some 57)], [(18, some 57), (20, some 59), (21, some 60)], [(18, some 57), (22, some 61)]]
    [(0, some 39), (1, some 40), (2, some 41), (3, some 42), (4, some 43), (5, some 44), (6, some 45), (7, some 46), (8, some 47), (9, some 48), (10, some 49), (11, some 50), (12, some 51), (13, some 52), (14, some 53), (15, some 54), (16, some 55), (17, some 56), (18, some 57), (19, some 58), (20, some 59), (21, some 60), (22, some 61), (23, some 62)]
    (by kernel_rfl) (by kernel_rfl) (by kernel_rfl) (by kernel_rfl) (by kernel_rfl) (by kernel_rfl) (by decide) (by decide) (fun w1 w2 h hb => ⟨h.1.grow hb, h.2.1.grow hb, h.2.2.1.keep hb, h.2.2.2.1.keep hb, h.2.2.2.2.1.grow hb, h.2.2.2.2.2.1.grow hb, h.2.2.2.2.2.2.trans (hb.mono h.2.2.2.2.2.2.size)⟩) ?_ ⟨HX.out.grow (Below.refl _ _).drew, HY.out.grow (Below.refl _ _).drew, HZ.out.keep (Below.refl _ _).drew, HD.out.keep (Below.refl _ _).drew, HZT.out.grow (Below.refl _ _).drew, HDT.out.grow (Below.refl _ _).drew, HB.out.drew⟩ ?_ ?_
  · intro ι w1 w2 v h hb
    match ι, h with
    | 0, h => exact h
    | 1, h => exact h
    | 2, h => exact h
    | 3, h => exact h
    | 4, h => exact h
    | 5, h => exact h
    | 6, h => exact h
    | 7, h => exact h
    | 8, h => exact h
    | 9, h => exact h
    | 10, h => exact h
    | 11, h => exact h
    | 12, h => exact h
    | 13, h => exact h
    | 14, h => exact h
    | 15, h => exact h
    | 16, h => exact h
    | 17, h => exact h
    | 18, h => exact h
    | 19, h => exact h
    | 20, h => exact h
    | 21, h => exact h
    | 22, h => exact h
    | 23, h => exact h
    | _ + 24, h => exact h
  · refine ⟨fun γ wx hS h => ?_, fun γ wx hS h => ?_, fun γ wx hS h => ?_, fun γ wx hS h => ?_, fun γ wx hS h => ?_, fun γ wx hS h => ?_, fun γ wx hS h => ?_, fun γ wx hS h => ?_, fun γ wx hS h => ?_, fun γ wx hS h => ?_, fun γ wx hS h => ?_, fun γ wx hS h => ?_, fun γ wx hS h => ?_, fun γ wx hS h => ?_, fun γ wx hS h => ?_, fun γ wx hS h => ?_, fun γ wx hS h => ?_, fun γ wx hS h => ?_, fun γ wx hS h => ?_, fun γ wx hS h => ?_, fun γ wx hS h => ?_, fun γ wx hS h => ?_, fun γ wx hS h => ?_, fun γ wx hS h => ?_, trivial⟩
    · refine ⟨_, rfl, Or.inl ⟨rfl, predRun_call (f := 8) (args := #[]) (by simp only [putE]; go_simp) ?_⟩⟩
      exact (awake_any wx).mono fun r w9 h9 => ⟨_, h9.1, rfl, h9.2⟩
    · have h0 := h
      have e0 : γ 0 = .bool true := h0
      refine ⟨_, rfl, ?_⟩
      refine predOp_val (v := .bool true) ?_ ?_ ?_
      · exact rfl
      · simp only [putE, e0]
        go_simp
      · rfl
    · have h1 := h
      have e1 : γ 1 = .bool true := h1
      refine ⟨_, rfl, ?_⟩
      refine predOp_val (v := .int .i64 e) ?_ ?_ ?_
      · exact (by simp only [putE, e1]; first | kernel_rfl | rfl)
      · simp only [putE, e1]
        go_simp
      · rfl
    · have h1 := h
      have e1 : γ 1 = .bool true := h1
      refine ⟨_, rfl, ?_⟩
      refine predOp_val (v := .int .i64 e) ?_ ?_ ?_
      · exact (by simp only [putE, e1]; first | kernel_rfl | rfl)
      · simp only [putE, e1]
        go_simp
      · rfl
    · obtain ⟨h1, h2, h3⟩ := h
      have e1 : γ 1 = .bool true := h1
      have e2 : γ 2 = .int .i64 e := h2
      have e3 : γ 3 = .int .i64 e := h3
      have hq : (e == e) = true := by simp
      refine ⟨_, rfl, ?_⟩
      refine predOp_val (v := .bool true) ?_ ?_ ?_
      · exact (by simp only [putE, e1, e2, e3]; first | kernel_rfl | rfl)
      · simp only [putE, e1, e2, e3]
        go_simp
      · rfl
    · obtain ⟨h1, h4⟩ := h
      have e1 : γ 1 = .bool true := h1
      have e4 : γ 4 = .bool true := h4
      refine ⟨_, rfl, ?_⟩
      refine predOp_val (v := .bool true) ?_ ?_ ?_
      · exact rfl
      · simp only [putE, e1, e4]
        go_simp
      · rfl
    · obtain ⟨h1, h5⟩ := h
      have e1 : γ 1 = .bool true := h1
      have e5 : γ 5 = .bool true := h5
      refine ⟨_, rfl, ?_⟩
      refine predOp_val (v := .bool true) ?_ ?_ ?_
      · exact rfl
      · simp only [putE, e1, e5]
        go_simp
      · rfl
    · have h6 := h
      have e6 : γ 6 = .bool true := h6
      refine ⟨_, rfl, ?_⟩
      refine predOp_val (v := .slice xa xn xc) ?_ ?_ ?_
      · exact (by simp only [putE, e6]; first | kernel_rfl | rfl)
      · simp only [putE, e6]
        go_simp
      · rfl
    · obtain ⟨h6, h7⟩ := h
      have e6 : γ 6 = .bool true := h6
      have e7 : γ 7 = .slice xa xn xc := h7
      have hq : (convert 23 9 (.slice xa xn xc)).run Try.prog wx = .ok (.string sx) wx := by rw [HSX.out]; exact hS.1.text
      refine ⟨_, rfl, ?_⟩
      refine predOp_val (v := .string sx) ?_ ?_ ?_
      · exact (by simp only [putE, e6, e7]; first | kernel_rfl | rfl)
      · simp only [putE, e6, e7]
        go_simp
      · rfl
    · have h6 := h
      have e6 : γ 6 = .bool true := h6
      refine ⟨_, rfl, ?_⟩
      refine predOp_val (v := .slice ya yn yc) ?_ ?_ ?_
      · exact (by simp only [putE, e6]; first | kernel_rfl | rfl)
      · simp only [putE, e6]
        go_simp
      · rfl
    · obtain ⟨h6, h9⟩ := h
      have e6 : γ 6 = .bool true := h6
      have e9 : γ 9 = .slice ya yn yc := h9
      have hq : (convert 23 9 (.slice ya yn yc)).run Try.prog wx = .ok (.string sx) wx := by rw [HSX.out]; exact hS.2.1.text
      refine ⟨_, rfl, ?_⟩
      refine predOp_val (v := .string sx) ?_ ?_ ?_
      · exact (by simp only [putE, e6, e9]; first | kernel_rfl | rfl)
      · simp only [putE, e6, e9]
        go_simp
      · rfl
    · obtain ⟨h6, h8, h10⟩ := h
      have e6 : γ 6 = .bool true := h6
      have e8 : γ 8 = .string sx := h8
      have e10 : γ 10 = .string sx := h10
      have hq : (sx.toList == sx.toList) = true := by simp
      refine ⟨_, rfl, ?_⟩
      refine predOp_val (v := .bool true) ?_ ?_ ?_
      · exact (by simp only [putE, e6, e8, e10]; first | kernel_rfl | rfl)
      · simp only [putE, e6, e8, e10]
        go_simp
      · rfl
    · obtain ⟨h6, h11⟩ := h
      have e6 : γ 6 = .bool true := h6
      have e11 : γ 11 = .bool true := h11
      refine ⟨_, rfl, ?_⟩
      refine predOp_val (v := .bool true) ?_ ?_ ?_
      · exact rfl
      · simp only [putE, e6, e11]
        go_simp
      · rfl
    · obtain ⟨h6, h12⟩ := h
      have e6 : γ 6 = .bool true := h6
      have e12 : γ 12 = .bool true := h12
      refine ⟨_, rfl, ?_⟩
      refine predOp_val (v := .bool true) ?_ ?_ ?_
      · exact rfl
      · simp only [putE, e6, e12]
        go_simp
      · rfl
    · have h13 := h
      have e13 : γ 13 = .bool true := h13
      refine ⟨_, rfl, ?_⟩
      refine predOp_val (v := .int .i64 g) ?_ ?_ ?_
      · exact (by simp only [putE, e13]; first | kernel_rfl | rfl)
      · simp only [putE, e13]
        go_simp
      · rfl
    · have h13 := h
      have e13 : γ 13 = .bool true := h13
      refine ⟨_, rfl, ?_⟩
      refine predOp_val (v := .int .i64 g) ?_ ?_ ?_
      · exact (by simp only [putE, e13]; first | kernel_rfl | rfl)
      · simp only [putE, e13]
        go_simp
      · rfl
    · obtain ⟨h13, h14, h15⟩ := h
      have e13 : γ 13 = .bool true := h13
      have e14 : γ 14 = .int .i64 g := h14
      have e15 : γ 15 = .int .i64 g := h15
      have hq : (g == g) = true := by simp
      refine ⟨_, rfl, ?_⟩
      refine predOp_val (v := .bool true) ?_ ?_ ?_
      · exact (by simp only [putE, e13, e14, e15]; first | kernel_rfl | rfl)
      · simp only [putE, e13, e14, e15]
        go_simp
      · rfl
    · obtain ⟨h13, h16⟩ := h
      have e13 : γ 13 = .bool true := h13
      have e16 : γ 16 = .bool true := h16
      refine ⟨_, rfl, ?_⟩
      refine predOp_val (v := .bool true) ?_ ?_ ?_
      · exact rfl
      · simp only [putE, e13, e16]
        go_simp
      · rfl
    · obtain ⟨h13, h17⟩ := h
      have e13 : γ 13 = .bool true := h13
      have e17 : γ 17 = .bool true := h17
      refine ⟨_, rfl, ?_⟩
      refine predOp_val (v := .bool true) ?_ ?_ ?_
      · exact rfl
      · simp only [putE, e13, e17]
        go_simp
      · rfl
    · have h18 := h
      have e18 : γ 18 = .bool true := h18
      refine ⟨_, rfl, ?_⟩
      refine predOp_val (v := .agg #[.int .u32 z1, .int .i64 z2, .int .i64 z3, .slice za zn zc]) ?_ ?_ ?_
      · exact (by simp only [putE, e18]; first | kernel_rfl | rfl)
      · exact exec_load_row (x := .tmp 9) (g := Z) (t := 30) (cs := #[.int .u32 z1, .int .i64 z2, .int .i64 z3, .slice za zn zc]) (fr := (0, 0)) rfl (by simp only [putE, e18, Act.put, List.setIfInBounds_toArray, List.set_cons_zero, List.set_cons_succ]; rfl) hS.2.2.1 Try.underlying30 rfl info30s
      · rfl
    · obtain ⟨h18, h19⟩ := h
      have e18 : γ 18 = .bool true := h18
      have e19 : γ 19 = .agg #[.int .u32 z1, .int .i64 z2, .int .i64 z3, .slice za zn zc] := h19
      refine ⟨_, rfl, Or.inl ⟨(by simp only [putE, e18, e19]; first | kernel_rfl | rfl), predRun_call (f := 15) (args := #[.agg #[.int .u32 z1, .int .i64 z2, .int .i64 z3, .slice za zn zc]]) (by simp only [putE, e18, e19]; go_simp) ?_⟩⟩
      exact (from_any z1 z2 z3 za zn zc wx).mono fun r w9 h9 => ⟨_, h9.1, rfl, h9.2⟩
    · have h18 := h
      have e18 : γ 18 = .bool true := h18
      refine ⟨_, rfl, ?_⟩
      refine predOp_val (v := .agg #[.int .u32 z1, .int .i64 z2, .int .i64 z3, .slice da zn dc]) ?_ ?_ ?_
      · exact (by simp only [putE, e18]; first | kernel_rfl | rfl)
      · exact exec_load_row (x := .tmp 11) (g := D) (t := 25) (cs := #[.int .u32 z1, .int .i64 z2, .int .i64 z3, .slice da zn dc]) (fr := (0, 0)) rfl (by simp only [putE, e18, Act.put, List.setIfInBounds_toArray, List.set_cons_zero, List.set_cons_succ]; rfl) hS.2.2.2.1 Try.underlying25 rfl info25s
      · rfl
    · obtain ⟨h18, h20, h21⟩ := h
      have e18 : γ 18 = .bool true := h18
      have e20 : γ 20 = .agg #[.int .u32 z1, .int .i64 z2, .int .i64 z3, .slice za zn zc] := h20
      have e21 : γ 21 = .agg #[.int .u32 z1, .int .i64 z2, .int .i64 z3, .slice da zn dc] := h21
      refine ⟨_, rfl, Or.inl ⟨(by simp only [putE, e18, e20, e21]; first | kernel_rfl | rfl), predRun_call (f := 14) (args := #[.agg #[.int .u32 z1, .int .i64 z2, .int .i64 z3, .slice za zn zc], .agg #[.int .u32 z1, .int .i64 z2, .int .i64 z3, .slice da zn dc]]) (by simp only [putE, e18, e20, e21]; go_simp) ?_⟩⟩
      exact (same_any wx.heap.size wx.heap.size ⟨z1, z2, z3, .slice za zn zc, T⟩ ⟨z1, z2, z3, .slice da zn dc, T⟩ wx hS.2.2.2.2.1 hS.2.2.2.2.2.1).mono fun r w9 h9 => ⟨_, h9.1, by simp [sameB], h9.2⟩
    · obtain ⟨h18, h22⟩ := h
      have e18 : γ 18 = .bool true := h18
      have e22 : γ 22 = .bool true := h22
      refine ⟨_, rfl, ?_⟩
      refine predOp_val (v := .bool true) ?_ ?_ ?_
      · exact rfl
      · simp only [putE, e18, e22]
        go_simp
      · rfl
  · intro γ w9 hS h
    have e23 : γ 23 = .bool true := h.2.2.2.2.2.2.2.2.2.2.2.2.2.2.2.2.2.2.2.2.2.2.2
    simp only [putE, Act.put, List.setIfInBounds_toArray, List.set_cons_zero, List.set_cons_succ]
    rw [e23]
    have HS7 := Kp.mk hS.2.2.2.2.2.2
    clear h hS e23
    refine wpOps_step rfl rfl ?_
    go_simp
    refine wpOps_done ?_
    go_wp2_with fail
    go_ret
    exact ⟨rfl, HS7.out⟩
end Go.Proofs.Ytlgcpfeaecpocaa
