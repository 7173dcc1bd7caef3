/-
  The document's joiner takes a newer body's piece.
-/
import Derived.Test.YtlgcpfeaecpocaaPlB
import Derived.Deep.RegionHeld3
namespace Go.Proofs.Ytlgcpfeaecpocaa
open Go.RowKit

set_option maxRecDepth 100000 in
set_option maxHeartbeats 80000000 in
theorem rtake_newer (B : Nat) (R : RJ) (v : Value) (p : PV) (tp : List Int) (w : World) (hB : B ≤ w.heap.size) (h : QRow w B v R.ps) (hp : HoldsB w B (.slice p.a p.n p.c) tp) (hl : (R.over = false → R.ps.length ≤ 31) ∧ ∀ x ∈ R.ps, x.l.length ≤ 4096) (ho : R.over = false → R.any = true → (R.ps.length : Int) < R.many) (hm : R.many ≤ 32) (hr : rightB p = true) (h1 : R.any = true) (h2 : ¬ p.id < R.id) (h3 : (p.id == R.id) = false) (h4 : R.id < p.id) :
    Calls Try.prog 20 #[.agg (rjc R v), p.v] w (RTakePost B R p tp w) := by
  have H := Kp.mk h
  have HT := Kp.mk hp
  have hn : p.n = tp.length := by
    obtain ⟨a1, n1, c1, e1, e2⟩ := hp.slice
    simp only [Value.slice.injEq] at e1
    omega
  have HN := Kp.mk hn
  have HL := Kp.mk hl
  have HO := Kp.mk ho
  have HBW := Kp.mk hB
  obtain ⟨va, vn, vc, rfl, hvn⟩ := h.shape
  have HVN := Kp.mk hvn
  clear h hp hn hl ho hvn hB hm
  go_enter Try.func20, Try.ntmps20
  go_wp2_with fail
  obtain ⟨F, hF⟩ : ∃ F, F = w.heap.size := ⟨_, rfl⟩
  have HFe := Kp.mk hF
  refine calls_world (fun W => TS w B F p tp R (.slice va vn vc) W) ⟨((Blk.newAt _ hF).old _).old _, (Blk.newAt _ (by simp [hF])).old _, Blk.newAt _ (by simp [hF]), ((H.out.keep (more (Below.refl _ _) _)).keep (more (Below.refl _ _) _)).keep (more (Below.refl _ _) _), ((HT.out.alloc _).alloc _).alloc _, by rw [hF]; exact more (more (more (Below.refl _ _) _) _) _, by rw [hF]; exact HBW.out⟩ ?_
  intro W h1
  have T0 := Kp.mk h1
  rw [← hF]
  clear h1 hF
  refine (rright_any p W).mono ?_
  rintro r w1 ⟨rfl, hb⟩
  have T1 := Kp.mk (T0.out.keep hb)
  clear hb T0
  have hpc : ∀ {R' : RJ} {v' : Value} {W' : World}, TS w B F p tp R' v' W' → W'.cell? ⟨F + 1, 0, none⟩ = some (.int .u32 p.id) ∧ W'.cell? ⟨F + 1, 1, none⟩ = some (.int .i64 p.at_) ∧ W'.cell? ⟨F + 1, 2, none⟩ = some (.int .i64 p.many) ∧ W'.cell? ⟨F + 1, 3, none⟩ = some (.slice p.a p.n p.c) := fun h => ⟨h.b.cell 0, h.b.cell 1, h.b.cell 2, h.b.cell 3⟩
  have hjc : ∀ {R' : RJ} {v' : Value} {W' : World}, TS w B F p tp R' v' W' → W'.cell? ⟨F, 0, none⟩ = some (.bool R'.any) ∧ W'.cell? ⟨F, 1, none⟩ = some (.bool R'.over) ∧ W'.cell? ⟨F, 2, none⟩ = some (.int .u32 R'.id) ∧ W'.cell? ⟨F, 3, none⟩ = some (.int .i64 R'.many) ∧ W'.cell? ⟨F, 4, none⟩ = some v' := fun h => ⟨h.j.cell 0, h.j.cell 1, h.j.cell 2, h.j.cell 3, h.j.cell 4⟩
  have HPC := Kp.mk @hpc
  have HJC := Kp.mk @hjc
  clear hpc hjc
  have HRB := Kp.mk hr
  have HRR := Kp.mk (rightB_is hr)
  rw [hr]
  clear hr
  obtain ⟨p0, p1, p2, p3⟩ := HPC.out T1.out
  obtain ⟨j0, j1, j2, j3, j4⟩ := HJC.out T1.out
  have HNX : Kp (nextR R p = ⟨true, false, p.id, p.many, []⟩) := ⟨by unfold nextR; rw [if_pos (.inr h4)]⟩
  have HNA : Kp (¬ (R.any = true ∧ (p.id < R.id ∨ p.id = R.id ∧ R.over = true))) := ⟨by rintro ⟨-, a | ⟨a, -⟩⟩ <;> omega⟩
  obtain ⟨f0, f1, f2, f3, f4⟩ : w1.frozen? ⟨F, 0, none⟩ = false ∧ w1.frozen? ⟨F, 1, none⟩ = false ∧ w1.frozen? ⟨F, 2, none⟩ = false ∧ w1.frozen? ⟨F, 3, none⟩ = false ∧ w1.frozen? ⟨F, 4, none⟩ = false := ⟨T1.out.j.frozen 0, T1.out.j.frozen 1, T1.out.j.frozen 2, T1.out.j.frozen 3, T1.out.j.frozen 4⟩
  have HTU := Kp.mk (turn5 T1.out.j (.bool true) (.bool false) (.int .u32 p.id) (.int .i64 p.many) (.slice none 0 0))
  go_wp2_with fail
  have T2 : Kp (TS w B F p tp ⟨true, false, p.id, p.many, []⟩ (.slice none 0 0) (w1.setCells F 0 [.bool true, .bool false, .int .u32 p.id, .int .i64 p.many, .slice none 0 0])) := ⟨T1.out.put (R' := ⟨true, false, p.id, p.many, []⟩) HTU.out (QRow.nil _ _)⟩
  clear p0 p1 p2 p3 j0 j1 j2 j3 j4 f0 f1 f2 f3 f4 HTU
  refine calls_world (fun W => TS w B F p tp ⟨true, false, p.id, p.many, []⟩ (.slice none 0 0) W) T2.out ?_
  intro W2 hT2
  clear T2
  refine (rpart_any B ⟨true, false, p.id, p.many, []⟩ (.slice none 0 0) p.at_ W2 (QRow.nil _ _) (by simp)).mono ?_
  rintro r w3 ⟨rfl, hb⟩
  have T3' := hT2.keep hb
  obtain ⟨R1, hR1⟩ : ∃ R1, R1 = (⟨true, false, p.id, p.many, []⟩ : RJ) := ⟨_, rfl⟩
  obtain ⟨a1, n1, c1, hv1⟩ : ∃ a1 n1 c1, Value.slice a1 n1 c1 = .slice none 0 0 := ⟨_, _, _, rfl⟩
  have HNX1 : Kp (nextR R p = R1) := ⟨by rw [hR1]; exact HNX.out⟩
  have HL1 : Kp ((R1.ps.length ≤ 31 ∧ ∀ x ∈ R1.ps, x.l.length ≤ 4096) ∧ n1 = R1.ps.length) := ⟨by rw [hR1]; exact ⟨by simp, fun x hx => by cases hx⟩, by simp only [Value.slice.injEq] at hv1; rw [hR1]; simpa using hv1.2.1⟩
  have HMN : Kp (p.many = R1.many) := ⟨by rw [hR1]⟩
  have HFN : Kp (findP R1.ps p.at_ = none) := ⟨by rw [hR1]; rfl⟩
  have T3 : Kp (TS w B F p tp R1 (.slice a1 n1 c1) w3) := ⟨by rw [hR1, hv1]; exact T3'⟩
  rw [show findP ([] : List PcV) p.at_ = none from rfl]
  clear hR1 hv1 HNX T3' hT2 hb h1
  try clear h4
  try clear h3
  try clear h2
  simp only [partV, Option.isSome]
  obtain ⟨q0, q1, q2, q3⟩ := HPC.out (T3.out.keep (more (Below.refl _ _) (.cells #[.int .u32 0, .int .i64 0, .int .i64 0, .slice none 0 0] 25)))
  have hn1 : n1 ≤ 31 := by have := HL1.out; omega
  have hpn : p.n ≤ 4096 := HRR.out.2.2.2.2
  go_wp2_with fail
  have T4 : Kp (TS w B F p tp R1 (.slice a1 n1 c1) (w3.alloc (.cells #[.int .u32 0, .int .i64 0, .int .i64 0, .slice none 0 0] 25))) := ⟨T3.out.keep (more (Below.refl _ _) _)⟩
  clear q0 q1 q2 q3 T3
  generalize w3.alloc (.cells #[.int .u32 0, .int .i64 0, .int .i64 0, .slice none 0 0] 25) = W4 at *
  go_loopw [10, 11] (fun s c wr => ∃ i : Nat, i ≤ n1 ∧ c = .int .i64 i ∧ s = .int .i64 ((p.n + lensR (R1.ps.take i) : Nat) : Int) ∧ wr = W4) (fun _ c _ => n1 - (intOf c).toNat)
  case atStart => exact ⟨0, by omega, rfl, by simp [lensR], rfl⟩
  case round =>
    obtain ⟨i, hi, rfl, rfl, rfl⟩ := hrel
    have k4 : wr.cell? ⟨F, 4, none⟩ = some (.slice a1 n1 c1) := T4.out.j.cell 4
    have HLS : Kp (lensR (R1.ps.take i) ≤ 4096 * 31) := ⟨lensR_le (fun x hx => HL1.out.1.2 x (List.mem_of_mem_take hx)) (by rw [List.length_take]; have := HL1.out; omega)⟩
    by_cases hlt : i < n1
    · have hlt' : (i : Int) < (n1 : Int) := by omega
      have hil : i < R1.ps.length := by rw [← HL1.out.2]; exact hlt
      obtain ⟨lb, cap, e, -, hr⟩ := T4.out.q.at hil
      simp only [Value.slice.injEq] at e
      obtain ⟨rfl, -, -⟩ := e
      obtain ⟨xa, xn, xc, ex, hxn⟩ := (T4.out.q.t _ (List.getElem_mem hil)).slice
      have e3 : wr.cell? ⟨lb, i * 4 + 3, none⟩ = some (.slice xa xn xc) := by have := hr 3 _ rfl; rw [ex] at this; exact this
      have HLX : Kp (lensR (R1.ps.take (i + 1)) = lensR (R1.ps.take i) + xn) := ⟨by rw [hxn]; exact lensR_succ hil⟩
      have hxn2 : xn ≤ 4096 := by rw [hxn]; exact HL1.out.1.2 _ (List.getElem_mem hil)
      obtain ⟨s0, hs0⟩ : ∃ s0, s0 = p.n + lensR (R1.ps.take i) := ⟨_, rfl⟩
      have HS0 := Kp.mk hs0
      have hsb : s0 ≤ 200000 := by have := HLS.out; omega
      rw [← hs0]
      have hsw : IntKind.i64.wrap ((s0 : Int) + xn) = (s0 : Int) + xn := IntWalk.i64_in _ (by omega)
      clear hr ex hxn hs0
      go_wp2_with fail
      exact ⟨⟨i + 1, by omega, by go_num, by rw [HLX.out, ← Nat.add_assoc, ← HS0.out]; rfl, by trivial⟩, by simp [intOf]; omega⟩
    · have hee : i = n1 := by omega
      have hle : ¬ (i : Int) < (n1 : Int) := by omega
      have HTK : Kp (R1.ps.take i = R1.ps) := ⟨List.take_of_length_le (by rw [← HL1.out.2]; omega)⟩
      rw [HTK.out] at HLS ⊢
      obtain ⟨s0, hs0⟩ : ∃ s0, s0 = p.n + lensR R1.ps := ⟨_, rfl⟩
      rw [← hs0]
      have HS0 := Kp.mk hs0
      clear hs0 hee
      by_cases hbig : 16384 < s0
      · have hbig' : (16384 : Int) < (s0 : Int) := by omega
        have k1 : wr.cell? ⟨F, 1, none⟩ = some (.bool R1.over) := T4.out.j.cell 1
        have f1 := T4.out.j.frozen 1
        have HR : Kp (rtakeR R p tp = (8, false, [], { R1 with over := true })) := ⟨by
          unfold rtakeR
          rw [if_neg (by rw [HRB.out]; decide), if_neg HNA.out, HNX1.out, if_neg (by rw [HMN.out]; simp), if_neg (by rw [HFN.out]; decide), if_pos (by have := HS0.out; have := HN.out; omega)]⟩
        obtain ⟨R2, hR2⟩ : ∃ R2, R2 = ({ R1 with over := true } : RJ) := ⟨_, rfl⟩
        rw [← hR2] at HR
        have T5 : Kp (TS w B F p tp R2 (.slice a1 n1 c1) (wr.setCell ⟨F, 1, none⟩ (.bool true))) := ⟨by rw [hR2]; exact T4.out.put (R' := { R1 with over := true }) ((Turn.same T4.out.j).set 1 _) (T4.out.q.turn T4.out.j ((Turn.same T4.out.j).set 1 _) T4.out.bf)⟩
        clear hR2 HLS HTK
        go_wp2_with fail
        clear k1 f1 k4
        refine wp_world (fun W => TS w B F p tp R2 (.slice a1 n1 c1) W) T5.out ?_
        intro W5 hT5
        have T5' := Kp.mk hT5
        clear hT5 T5
        have HD := Kp.mk (T5'.out.keep (Below.refl _ _).drew)
        refine wp_region_any (by kernel_rfl) ?_
        change wpAny _ _ _ _ _ _ _ (World.drew _)
        generalize (W5).drew = w9 at *
        have HTH := Kp.mk (there5 HD.out.r)
        have HTU := Kp.mk (turn5 HD.out.r (.bool R2.any) (.bool R2.over) (.int .u32 R2.id) (.int .i64 R2.many) (.slice a1 n1 c1))
        have H1C := Kp.mk (one5 R2 (.slice a1 n1 c1) HD.out.q)
        refine wpAny_take (i := 1) (oi := { dst := some 4, op := Go.Op.assign (Go.Operand.const (Go.Value.slice none 0 0)), type := 23, pos := "ref.go:124", after := #[{ on := 0, ground := Go.Ground.textOnly Go.Departure.lateStores }], guard := none }) (v := .slice none 0 0) rfl (by kernel_rfl) (by kernel_rfl) (by kernel_rfl) (fun _ _ _ h => h) (Or.inl ⟨by rfl, fun w => by go_simp⟩) ?_
        simp only [Act.put, List.setIfInBounds_toArray, List.set_cons_zero, List.set_cons_succ]
        refine wpAny_take (i := 2) (oi := { dst := some 5, op := Go.Op.assign (Go.Operand.const (Go.Value.bool false)), type := 4, pos := "ref.go:124", after := #[{ on := 1, ground := Go.Ground.chain }, { on := 0, ground := Go.Ground.textOnly Go.Departure.lateStores }, { on := 1, ground := Go.Ground.phase }], guard := none }) (v := .bool false) rfl (by kernel_rfl) (by kernel_rfl) (by kernel_rfl) (fun _ _ _ h => h) (Or.inl ⟨by rfl, fun w => by go_simp⟩) ?_
        simp only [Act.put, List.setIfInBounds_toArray, List.set_cons_zero, List.set_cons_succ]
        refine wpAny_take (i := 3) (oi := { dst := some 6, op := Go.Op.assign (Go.Operand.const (Go.Value.int Go.IntKind.i64 8)), type := 3, pos := "ref.go:124", after := #[{ on := 2, ground := Go.Ground.chain }, { on := 0, ground := Go.Ground.textOnly Go.Departure.lateStores }, { on := 1, ground := Go.Ground.phase }, { on := 2, ground := Go.Ground.phase }], guard := none }) (v := .int .i64 8) rfl (by kernel_rfl) (by kernel_rfl) (by kernel_rfl) (fun _ _ _ h => h) (Or.inl ⟨by rfl, fun w => by go_simp⟩) ?_
        simp only [Act.put, List.setIfInBounds_toArray, List.set_cons_zero, List.set_cons_succ]
        refine wpAny_ready (rs := [0]) (by kernel_rfl) (by simp) ?_
        refine AllReady.cons (o := { dst := some 103, op := Go.Op.load 51 (Go.Operand.tmp 2), type := 51, pos := "ref.go:124", after := #[{ on := 3, ground := Go.Ground.gcOnly Go.Departure.lateStores }], guard := none }) rfl (fun K hK => ?_) AllReady.nil
        refine wp_load_row 51 (.tmp 2) rfl F rfl 51 (rjc R2 (.slice a1 n1 c1)) (0, 0) _ HD.out.j Try.underlying51 rfl info51s ?_
        refine hK _ _ ?_
        clear hK K
        try simp only [Act.put, List.setIfInBounds_toArray, List.set_cons_zero, List.set_cons_succ]
        refine wpAny_ready (rs := [4]) (by kernel_rfl) (by simp) ?_
        refine AllReady.cons (o := { dst := none, op := Go.Op.store 51 (Go.Operand.tmp 7) (Go.Operand.tmp 103), type := 0, pos := "ref.go:124", after := #[{ on := 0, ground := Go.Ground.data }, { on := 3, ground := Go.Ground.chain }, { on := 0, ground := Go.Ground.phase }, { on := 1, ground := Go.Ground.phase }, { on := 2, ground := Go.Ground.phase }, { on := 3, ground := Go.Ground.phase }], guard := none }) rfl (fun K hK => ?_) AllReady.nil
        refine wp_store_mid 51 (.tmp 7) (.tmp 103) rfl (F + 1 + 1) 0 (rjc R2 (.slice a1 n1 c1)) rfl rfl HTH.out info51s H1C.out ?_
        refine hK _ _ ?_
        clear hK K
        try simp only [Act.put, List.setIfInBounds_toArray, List.set_cons_zero, List.set_cons_succ]
        refine wpAny_done (by kernel_rfl) ?_ _
        refine ex_worldL (fun W => Turn (F + 1 + 1) (.cells (rjc R2 (.slice a1 n1 c1)) 51) w9 W) HTU.out ?_
        intro W5 hT5
        have HT5 := Kp.mk hT5
        clear hT5 HTU HTH H1C
        go_wp2_with fail
        have HBK := Kp.mk HT5.out.blk
        exact bodyPost_ret (results_3c rfl _ _ (F + 1 + 1) 51 _ (0, 0) _ rfl HBK.out Try.underlying51 rfl info51s) rfl ⟨.slice none 0 0, (.slice a1 n1 c1), by rw [HR.out]; rfl, by rw [HR.out]; exact HoldsB.nil _ _, by rw [HR.out]; exact HD.out.qrow HT5.out, by rw [← HFe.out]; exact HD.out.end_ HT5.out⟩
      · have hbig' : ¬ (16384 : Int) < (s0 : Int) := by omega
        go_wp2_with fail
        clear k4
        obtain ⟨W5, hW5⟩ : ∃ W5 : World, W5 = wr := ⟨_, rfl⟩
        have T5 : Kp (TS w B F p tp R1 (.slice a1 n1 c1) W5) := ⟨by rw [hW5]; exact T4.out⟩
        rw [← hW5]
        have hsm : ¬ 16384 < p.n + lensR R1.ps := by have := HS0.out; omega
        have HSM := Kp.mk hsm
        clear hW5 T4 HLS HTK hbig hbig' HS0 hsm
        obtain ⟨i25, hi25, hy0, hy1, hy2⟩ := info_parts info25z
        go_loopw [12, 13] (fun v12 c wr => ∃ i : Nat, i ≤ n1 ∧ c = .int .i64 i ∧ Kp (wr.ownsRow W5.heap.size 25 4 v12 i (rcells (R1.ps.take i))) ∧ Kp (Below W5.heap.size W5 wr)) (fun _ c _ => n1 - (intOf c).toNat)
        case atStart => exact ⟨0, by omega, rfl, ⟨World.ownsRow_nil _ _ _ _⟩, ⟨Below.refl _ _⟩⟩
        case round =>
          obtain ⟨i, hi, rfl, HO, HB⟩ := hrel
          have k4 : wr.cell? ⟨F, 4, none⟩ = some (.slice a1 n1 c1) := (T5.out.keep HB.out).j.cell 4
          by_cases hlt : i < n1
          · have hlt' : (i : Int) < (n1 : Int) := by omega
            have hil : i < R1.ps.length := by rw [← HL1.out.2]; exact hlt
            obtain ⟨lb, cap, e, -, hr⟩ := (T5.out.keep HB.out).q.at hil
            simp only [Value.slice.injEq] at e
            obtain ⟨rfl, -, -⟩ := e
            obtain ⟨xa, xn, xc, ex, -⟩ := (T5.out.q.t _ (List.getElem_mem hil)).slice
            have HX1 := Kp.mk (rcells_succ hil)
            obtain ⟨x, hx⟩ : ∃ x, x = R1.ps[i]'hil := ⟨_, rfl⟩
            rw [← hx] at hr ex HX1
            clear hx
            obtain ⟨xi, xat, xm, xv, xl⟩ := x
            simp only [] at ex
            subst ex
            unfold pcc at hr HX1
            simp only [] at hr HX1
            have e0 : wr.cell? ⟨lb, i * 4, none⟩ = some (.int .u32 xi) := hr 0 _ rfl
            have e1 : wr.cell? ⟨lb, i * 4 + 1, none⟩ = some (.int .i64 xat) := hr 1 _ rfl
            have e2 : wr.cell? ⟨lb, i * 4 + 2, none⟩ = some (.int .i64 xm) := hr 2 _ rfl
            have e3 : wr.cell? ⟨lb, i * 4 + 3, none⟩ = some (.slice xa xn xc) := hr 3 _ rfl
            have hbs := build44 xi xat xm xa xn xc wr
            have HRW : Kp ((wr.alloc (.cells #[.int .u32 xi, .int .i64 xat, .int .i64 xm, .slice xa xn xc] 25)).ownsRow W5.heap.size 25 4 u12 i (rcells (R1.ps.take i))) := ⟨ownsRow_below HO.out (more (Below.refl _ _) _)⟩
            have HSZ : Kp (W5.heap.size ≤ wr.heap.size) := ⟨HB.out.size⟩
            have HBA : Kp (Below W5.heap.size W5 (wr.alloc (.cells #[.int .u32 xi, .int .i64 xat, .int .i64 xm, .slice xa xn xc] 25))) := ⟨HB.out.alloc HB.out.size _⟩
            obtain ⟨xs4, hxs4⟩ : ∃ xs4, xs4 = rcells (R1.ps.take i) := ⟨_, rfl⟩
            rw [← hxs4] at HRW HX1
            clear hxs4 hr
            go_wp2_with (first
              | (refine wpList_buildSlice_one rfl 44 1 (.tmp 116) rfl (.agg #[.int .u32 xi, .int .i64 xat, .int .i64 xm, .slice xa xn xc]) rfl _ _ hbs ?_)
              | (at_builtin; refine wpList_append_own2 rfl (.tmp 111) (.tmp 117) 44 rfl W5.heap.size 25 i25 (.agg #[.int .u32 0, .int .i64 0, .int .i64 0, .slice none 0 0]) 4 48 Try.underlying44 hi25 hy0 hy1 hy2 rfl (by decide) u12 i xs4 rfl HRW.out ⟨wr.heap.size, 0, none⟩ 1 1 [.int .u32 xi, .int .i64 xat, .int .i64 xm, .slice xa xn xc] rfl ?c0 ?c1 ?c2 ?c3 ?c4 ?c5 ?_))
            case c0 => rfl
            case c1 => exact row_new4 wr ⟨xi, xat, xm, .slice xa xn xc, []⟩
            case c2 => exact fun u hu => by simp at hu; rcases hu with rfl | rfl | rfl | rfl <;> rfl
            case c3 => unfold maxLen; omega
            case c4 => omega
            case c5 => have := HSZ.out; simp; omega
            · intro v' w4 hown' hgrow _
              have HF := Kp.mk hown'
              have HB4 : Kp (Below W5.heap.size W5 w4) := ⟨below_row_grown HBA.out (by have := HSZ.out; simp; omega) HRW.out hgrow⟩
              clear hown' hgrow hbs
              go_wp2_with fail
              exact ⟨⟨i + 1, by omega, by go_num, by rw [HX1.out]; exact HF, HB4⟩, by simp [intOf]; omega⟩
          · have hee : i = n1 := by omega
            have hle : ¬ (i : Int) < (n1 : Int) := by omega
            have HO2 : Kp (wr.ownsRow W5.heap.size 25 4 u12 n1 (rcells R1.ps)) := ⟨by
              have h := HO.out
              rw [List.take_of_length_le (show R1.ps.length ≤ i by rw [← HL1.out.2]; omega), hee] at h
              exact h⟩
            have T6 := Kp.mk (T5.out.keep HB.out)
            obtain ⟨q0, q1, q2, q3⟩ := HPC.out T6.out
            have hbs := build44 p.id p.at_ p.many p.a p.n p.c wr
            have HRW : Kp ((wr.alloc (.cells #[.int .u32 p.id, .int .i64 p.at_, .int .i64 p.many, .slice p.a p.n p.c] 25)).ownsRow W5.heap.size 25 4 u12 n1 (rcells R1.ps)) := ⟨ownsRow_below HO2.out (more (Below.refl _ _) _)⟩
            have HSZ : Kp (W5.heap.size ≤ wr.heap.size) := ⟨HB.out.size⟩
            have HBA : Kp (Below W5.heap.size W5 (wr.alloc (.cells #[.int .u32 p.id, .int .i64 p.at_, .int .i64 p.many, .slice p.a p.n p.c] 25))) := ⟨HB.out.alloc HB.out.size _⟩
            obtain ⟨xs4, hxs4⟩ : ∃ xs4, xs4 = rcells R1.ps := ⟨_, rfl⟩
            rw [← hxs4] at HRW
            have HXS := Kp.mk hxs4
            clear hxs4 hee HO HO2
            go_wp2_with (first
              | (refine wpList_buildSlice_one rfl 44 1 (.tmp 120) rfl (.agg #[.int .u32 p.id, .int .i64 p.at_, .int .i64 p.many, .slice p.a p.n p.c]) rfl _ _ hbs ?_)
              | (at_builtin; refine wpList_append_own2 rfl (.tmp 119) (.tmp 121) 44 rfl W5.heap.size 25 i25 (.agg #[.int .u32 0, .int .i64 0, .int .i64 0, .slice none 0 0]) 4 48 Try.underlying44 hi25 hy0 hy1 hy2 rfl (by decide) u12 n1 xs4 rfl HRW.out ⟨wr.heap.size, 0, none⟩ 1 1 [.int .u32 p.id, .int .i64 p.at_, .int .i64 p.many, .slice p.a p.n p.c] rfl ?c0 ?c1 ?c2 ?c3 ?c4 ?c5 ?_))
            case c2 => first | exact ⟨rfl, rfl, rfl, rfl⟩ | exact fun u hu => by simp at hu; rcases hu with rfl | rfl | rfl | rfl <;> rfl
            case c3 => unfold maxLen; omega
            case c4 => omega
            case c5 => have := HSZ.out; simp; omega
            · intro v' w4 hown' hgrow _
              have HB4 : Kp (Below W5.heap.size W5 w4) := ⟨below_row_grown HBA.out (by have := HSZ.out; simp; omega) HRW.out hgrow⟩
              have T7 := Kp.mk (T5.out.keep HB4.out)
              obtain ⟨a2, c2, rfl⟩ := row_shape25 hown'
              obtain ⟨R2, hR2⟩ : ∃ R2, R2 = addR R1 p tp := ⟨_, rfl⟩
              have HQ7 : Kp (QRow w4 B (.slice a2 (n1 + 1) c2) R2.ps) := ⟨by
                rw [hR2]
                refine ⟨?_, fun x hx => ?_⟩
                · have h := ownsRow_base hown' (show B ≤ W5.heap.size by have := T5.out.bf; have := T5.out.j.lt; omega)
                  unfold addR
                  simp only [List.length_append, List.length_singleton]
                  rw [← HL1.out.2]
                  have e : rcells (R1.ps ++ [pcvOf p tp]) = xs4 ++ pcc (pcvOf p tp) := by rw [HXS.out]; simp [rcells]
                  rw [e]
                  exact h
                · unfold addR at hx
                  rcases List.mem_append.1 hx with hx | hx
                  · exact T7.out.q.t x hx
                  · rw [List.mem_singleton.1 hx]
                    exact T7.out.t⟩
              have HTU := Kp.mk ((Turn.same T7.out.j).set 4 (.slice a2 (n1 + 1) c2))
              have T8 : Kp (TS w B F p tp R2 (.slice a2 (n1 + 1) c2) (w4.setCell ⟨F, 4, none⟩ (.slice a2 (n1 + 1) c2))) := ⟨by
                have hq := HQ7.out.turn T7.out.j HTU.out T7.out.bf
                rw [hR2] at hq ⊢
                exact T7.out.put (R' := addR R1 p tp) HTU.out hq⟩
              have HR2 := Kp.mk hR2
              obtain ⟨k0, k1, k2, k3, k4⟩ := HJC.out T7.out
              have f4 := T7.out.j.frozen 4
              have f1 := T7.out.j.frozen 1
              have hml : R1.many ≤ 32 := by rw [← HMN.out]; exact HRR.out.2.1
              have hml1 : 1 ≤ R1.many := by rw [← HMN.out]; exact HRR.out.1
              clear hown' hgrow hbs hR2 HTU q0 q1 q2 q3
              by_cases hcmp : (n1 : Int) + 1 < R1.many
              · have HR : Kp (rtakeR R p tp = (0, false, [], R2)) := ⟨by
                  unfold rtakeR
                  rw [if_neg (by rw [HRB.out]; decide), if_neg HNA.out, HNX1.out, if_neg (by rw [HMN.out]; simp), if_neg (by rw [HFN.out]; decide), if_neg (by have := HSM.out; have := HN.out; omega), if_pos (by rw [← HL1.out.2]; exact hcmp), HR2.out]⟩
                go_wp2_with fail
                clear k0 k1 k2 k3 k4 f4 f1
                refine wp_world (fun W => TS w B F p tp R2 (.slice a2 (n1 + 1) c2) W) T8.out ?_
                intro W9 hT9
                have T9 := Kp.mk hT9
                clear hT9 T8
                have HD := Kp.mk (T9.out.keep (Below.refl _ _).drew)
                refine wp_region_any (by kernel_rfl) ?_
                change wpAny _ _ _ _ _ _ _ (World.drew _)
                generalize (W9).drew = w9 at *
                have HTH := Kp.mk (there5 HD.out.r)
                have HTU := Kp.mk (turn5 HD.out.r (.bool R2.any) (.bool R2.over) (.int .u32 R2.id) (.int .i64 R2.many) (.slice a2 (n1 + 1) c2))
                have H1C := Kp.mk (one5 R2 (.slice a2 (n1 + 1) c2) HD.out.q)
                refine wpAny_take (i := 1) (oi := { dst := some 4, op := Go.Op.assign (Go.Operand.const (Go.Value.slice none 0 0)), type := 23, pos := "ref.go:132", after := #[{ on := 0, ground := Go.Ground.textOnly Go.Departure.lateStores }], guard := none }) (v := .slice none 0 0) rfl (by kernel_rfl) (by kernel_rfl) (by kernel_rfl) (fun _ _ _ h => h) (Or.inl ⟨by rfl, fun w => by go_simp⟩) ?_
                simp only [Act.put, List.setIfInBounds_toArray, List.set_cons_zero, List.set_cons_succ]
                refine wpAny_take (i := 2) (oi := { dst := some 5, op := Go.Op.assign (Go.Operand.const (Go.Value.bool false)), type := 4, pos := "ref.go:132", after := #[{ on := 1, ground := Go.Ground.chain }, { on := 0, ground := Go.Ground.textOnly Go.Departure.lateStores }, { on := 1, ground := Go.Ground.phase }], guard := none }) (v := .bool false) rfl (by kernel_rfl) (by kernel_rfl) (by kernel_rfl) (fun _ _ _ h => h) (Or.inl ⟨by rfl, fun w => by go_simp⟩) ?_
                simp only [Act.put, List.setIfInBounds_toArray, List.set_cons_zero, List.set_cons_succ]
                refine wpAny_take (i := 3) (oi := { dst := some 6, op := Go.Op.assign (Go.Operand.const (Go.Value.int Go.IntKind.i64 0)), type := 3, pos := "ref.go:132", after := #[{ on := 2, ground := Go.Ground.chain }, { on := 0, ground := Go.Ground.textOnly Go.Departure.lateStores }, { on := 1, ground := Go.Ground.phase }, { on := 2, ground := Go.Ground.phase }], guard := none }) (v := .int .i64 0) rfl (by kernel_rfl) (by kernel_rfl) (by kernel_rfl) (fun _ _ _ h => h) (Or.inl ⟨by rfl, fun w => by go_simp⟩) ?_
                simp only [Act.put, List.setIfInBounds_toArray, List.set_cons_zero, List.set_cons_succ]
                refine wpAny_ready (rs := [0]) (by kernel_rfl) (by simp) ?_
                refine AllReady.cons (o := { dst := some 130, op := Go.Op.load 51 (Go.Operand.tmp 2), type := 51, pos := "ref.go:132", after := #[{ on := 3, ground := Go.Ground.gcOnly Go.Departure.lateStores }], guard := none }) rfl (fun K hK => ?_) AllReady.nil
                refine wp_load_row 51 (.tmp 2) rfl F rfl 51 (rjc R2 (.slice a2 (n1 + 1) c2)) (0, 0) _ HD.out.j Try.underlying51 rfl info51s ?_
                refine hK _ _ ?_
                clear hK K
                try simp only [Act.put, List.setIfInBounds_toArray, List.set_cons_zero, List.set_cons_succ]
                refine wpAny_ready (rs := [4]) (by kernel_rfl) (by simp) ?_
                refine AllReady.cons (o := { dst := none, op := Go.Op.store 51 (Go.Operand.tmp 7) (Go.Operand.tmp 130), type := 0, pos := "ref.go:132", after := #[{ on := 0, ground := Go.Ground.data }, { on := 3, ground := Go.Ground.chain }, { on := 0, ground := Go.Ground.phase }, { on := 1, ground := Go.Ground.phase }, { on := 2, ground := Go.Ground.phase }, { on := 3, ground := Go.Ground.phase }], guard := none }) rfl (fun K hK => ?_) AllReady.nil
                refine wp_store_mid 51 (.tmp 7) (.tmp 130) rfl (F + 1 + 1) 0 (rjc R2 (.slice a2 (n1 + 1) c2)) rfl rfl HTH.out info51s H1C.out ?_
                refine hK _ _ ?_
                clear hK K
                try simp only [Act.put, List.setIfInBounds_toArray, List.set_cons_zero, List.set_cons_succ]
                refine wpAny_done (by kernel_rfl) ?_ _
                refine ex_worldL (fun W => Turn (F + 1 + 1) (.cells (rjc R2 (.slice a2 (n1 + 1) c2)) 51) w9 W) HTU.out ?_
                intro W5 hT5
                have HT5 := Kp.mk hT5
                clear hT5 HTU HTH H1C
                go_wp2_with fail
                have HBK := Kp.mk HT5.out.blk
                exact bodyPost_ret (results_3c rfl _ _ (F + 1 + 1) 51 _ (0, 0) _ rfl HBK.out Try.underlying51 rfl info51s) rfl ⟨.slice none 0 0, (.slice a2 (n1 + 1) c2), by rw [HR.out]; rfl, by rw [HR.out]; exact HoldsB.nil _ _, by rw [HR.out]; exact HD.out.qrow HT5.out, by rw [← HFe.out]; exact HD.out.end_ HT5.out⟩
              · have HR : Kp (rtakeR R p tp = (0, true, bodyR R2.ps R2.many.toNat, { R2 with over := true })) := ⟨by
                  unfold rtakeR
                  rw [if_neg (by rw [HRB.out]; decide), if_neg HNA.out, HNX1.out, if_neg (by rw [HMN.out]; simp), if_neg (by rw [HFN.out]; decide), if_neg (by have := HSM.out; have := HN.out; omega), if_neg (by rw [← HL1.out.2]; exact hcmp), HR2.out]⟩
                obtain ⟨R3, hR3⟩ : ∃ R3, R3 = ({ R2 with over := true } : RJ) := ⟨_, rfl⟩
                obtain ⟨mN, hmN⟩ : ∃ mN : Nat, R1.many = mN := ⟨R1.many.toNat, by omega⟩
                have HMN2 : Kp (R2.many.toNat = mN ∧ R3.ps = R2.ps ∧ R3.many = mN ∧ R3.ps.length = n1 + 1 ∧ ∀ x ∈ R3.ps, x.l.length ≤ 4096) := ⟨by
                  rw [hR3, HR2.out]
                  unfold addR
                  simp only []
                  refine ⟨by omega, by trivial, hmN, by rw [List.length_append, ← HL1.out.2]; rfl, fun x hx => ?_⟩
                  rcases List.mem_append.1 hx with hx | hx
                  · exact HL1.out.1.2 x hx
                  · rw [List.mem_singleton.1 hx]
                    show tp.length ≤ 4096
                    have := HN.out
                    omega⟩
                rw [HMN2.out.1, ← hR3] at HR
                have T9 : Kp (TS w B F p tp R3 (.slice a2 (n1 + 1) c2) ((w4.setCell ⟨F, 4, none⟩ (.slice a2 (n1 + 1) c2)).setCell ⟨F, 1, none⟩ (.bool true))) := ⟨by
                  rw [hR3]
                  exact T8.out.put (R' := { R2 with over := true }) ((Turn.same T8.out.j).set 1 _) (T8.out.q.turn T8.out.j ((Turn.same T8.out.j).set 1 _) T8.out.bf)⟩
                have hm32 : mN ≤ 32 := by omega
                clear hR3
                go_wp2_with fail
                clear k0 k1 k2 k3 k4 f4 f1 T8 T7 HQ7 hmN hml hml1 hcmp
                generalize (w4.setCell ⟨F, 4, none⟩ (.slice a2 (n1 + 1) c2)).setCell ⟨F, 1, none⟩ (.bool true) = W6 at *
                go_loopw [14, 15] (fun v14 c wr => ∃ i : Nat, i ≤ mN ∧ c = .int .i64 i ∧ Kp (wr.ownsRow W6.heap.size 5 1 v14 (bodyR R3.ps i).length (bv (bodyR R3.ps i))) ∧ Kp (Below W6.heap.size W6 wr)) (fun _ c _ => mN - (intOf c).toNat)
                case atStart => exact ⟨0, by omega, by first | rfl | trivial, ⟨World.ownsRow_nil _ _ _ _⟩, ⟨Below.refl _ _⟩⟩
                case round =>
                  obtain ⟨i, hi, rfl, HO, HB9⟩ := hrel
                  have TA := Kp.mk (T9.out.keep HB9.out)
                  obtain ⟨k0, k1, k2, k3, k4⟩ := HJC.out TA.out
                  rw [HMN2.out.2.2.1] at k3
                  have HBL : Kp ((bodyR R3.ps i).length ≤ 4096 * 32) := ⟨bodyR_le HMN2.out.2.2.2.2 (by omega)⟩
                  by_cases hlt : i < mN
                  · have hlt' : (i : Int) < (mN : Int) := by omega
                    go_wp2_with fail
                    have hR3e : (Value.agg #[.bool R3.any, .bool R3.over, .int .u32 R3.id, .int .i64 (mN : Nat), .slice a2 (n1 + 1) c2]) = .agg (rjc R3 (.slice a2 (n1 + 1) c2)) := by rw [← HMN2.out.2.2.1]
                    rw [hR3e]
                    clear hR3e k0 k1 k2 k3 k4
                    refine (rpart_any B R3 (.slice a2 (n1 + 1) c2) i wr TA.out.q (by rw [HMN2.out.2.2.2.1]; omega)).mono ?_
                    rintro r w5 ⟨rfl, hb5⟩
                    have TB := Kp.mk (TA.out.keep hb5)
                    have HBB : Kp (Below W6.heap.size W6 w5) := ⟨HB9.out.trans (hb5.mono HB9.out.size)⟩
                    have HOB : Kp (w5.ownsRow W6.heap.size 5 1 u14 (bodyR R3.ps i).length (bv (bodyR R3.ps i))) := ⟨ownsRow_below HO.out hb5⟩
                    obtain ⟨z1, z2, z3, za, zn, zc, ez, hz⟩ := partV_shape TB.out.q i
                    rw [ez]
                    have HZ := Kp.mk hz
                    have HSB : Kp (bodyR R3.ps (i + 1) = bodyR R3.ps i ++ textAt R3.ps i) := ⟨rfl⟩
                    have HTL : Kp ((textAt R3.ps i).length ≤ 4096) := ⟨textAt_le HMN2.out.2.2.2.2 i⟩
                    have HOC : Kp ((w5.alloc (.cells #[.int .u32 z1, .int .i64 z2, .int .i64 z3, .slice za zn zc] 25)).ownsRow W6.heap.size 5 1 u14 (bodyR R3.ps i).length (bv (bodyR R3.ps i))) := ⟨ownsRow_below HOB.out (more (Below.refl _ _) _)⟩
                    have HZC : Kp (HoldsB (w5.alloc (.cells #[.int .u32 z1, .int .i64 z2, .int .i64 z3, .slice za zn zc] 25)) B (.slice za zn zc) (textAt R3.ps i)) := ⟨HZ.out.alloc _⟩
                    have HBC : Kp (Below W6.heap.size W6 (w5.alloc (.cells #[.int .u32 z1, .int .i64 z2, .int .i64 z3, .slice za zn zc] 25))) := ⟨HBB.out.alloc HBB.out.size _⟩
                    generalize textAt R3.ps i = tx at *
                    obtain ⟨bd1, hbd1⟩ : ∃ bd1, bd1 = bodyR R3.ps (i + 1) := ⟨_, rfl⟩
                    rw [← hbd1] at HSB
                    have HBD := Kp.mk hbd1
                    clear hbd1
                    generalize bodyR R3.ps i = bd0 at *
                    clear ez hb5 hz HO HOB
                    go_wp2_with (at_builtin; refine wpList_append_holds rfl (.tmp 144) (.tmp 146) rfl W6.heap.size u14 bd0.length (bv bd0) rfl HOC.out B (.slice za zn zc) tx rfl HZC.out (by have := HBL.out; have := HTL.out; omega) HBC.out.size ?_; intro v' w7 hown' hgrow)
                    have HD : Kp (w7.ownsRow W6.heap.size 5 1 v' bd1.length (bv bd1)) := ⟨by rw [HSB.out, List.length_append]; simpa [bv] using hown'⟩
                    have HB7 : Kp (Below W6.heap.size W6 w7) := ⟨below_row_grown HBC.out HBC.out.size HOC.out hgrow⟩
                    clear hown' hgrow
                    exact ⟨⟨i + 1, by omega, by go_num, by rw [← HBD.out]; exact HD, HB7⟩, by simp [intOf]; omega⟩
                  · have hee : i = mN := by omega
                    have hle : ¬ (i : Int) < (mN : Int) := by omega
                    rw [hee] at HO
                    have HBT : Kp (HoldsB wr wr.heap.size u14 (bodyR R3.ps mN)) := ⟨HoldsB.ofRow (bodyR_bytes (fun x hx => (TA.out.q.t x hx).bytes) mN) HO.out⟩
                    obtain ⟨ba, bn, bc, rfl⟩ := row_shape HO.out
                    rw [← HMN2.out.2.1] at HR
                    clear HO hee
                    go_wp2_with fail
                    clear k0 k1 k2 k3 k4
                    have HD := Kp.mk (TA.out.keep (Below.refl _ _).drew)
                    have HBD := Kp.mk (HBT.out.grow (Below.refl _ _).drew)
                    refine wp_region_any (by kernel_rfl) ?_
                    change wpAny _ _ _ _ _ _ _ (World.drew _)
                    generalize (wr).drew = w9 at *
                    have HTH := Kp.mk (there5 HD.out.r)
                    have HTU := Kp.mk (turn5 HD.out.r (.bool R3.any) (.bool R3.over) (.int .u32 R3.id) (.int .i64 R3.many) (.slice a2 (n1 + 1) c2))
                    have H1C := Kp.mk (one5 R3 (.slice a2 (n1 + 1) c2) HD.out.q)
                    refine wpAny_take (i := 0) (oi := { dst := some 148, op := Go.Op.move (Go.Operand.tmp 14), type := 23, pos := "ref.go:140", after := #[], guard := none }) (v := .slice ba bn bc) rfl (by kernel_rfl) (by kernel_rfl) (by kernel_rfl) (fun _ _ _ h => h) (Or.inl ⟨by rfl, fun w => by go_simp⟩) ?_
                    simp only [Act.put, List.setIfInBounds_toArray, List.set_cons_zero, List.set_cons_succ]
                    refine wpAny_take (i := 2) (oi := { dst := some 4, op := Go.Op.assign (Go.Operand.tmp 148), type := 23, pos := "ref.go:140", after := #[{ on := 0, ground := Go.Ground.data }, { on := 0, ground := Go.Ground.phase }, { on := 1, ground := Go.Ground.textOnly Go.Departure.lateStores }], guard := none }) (v := .slice ba bn bc) rfl (by kernel_rfl) (by kernel_rfl) (by kernel_rfl) (fun _ _ _ h => h) (Or.inl ⟨by rfl, fun w => by go_simp⟩) ?_
                    simp only [Act.put, List.setIfInBounds_toArray, List.set_cons_zero, List.set_cons_succ]
                    refine wpAny_take (i := 3) (oi := { dst := some 5, op := Go.Op.assign (Go.Operand.const (Go.Value.bool true)), type := 4, pos := "ref.go:140", after := #[{ on := 2, ground := Go.Ground.chain }, { on := 0, ground := Go.Ground.phase }, { on := 1, ground := Go.Ground.textOnly Go.Departure.lateStores }, { on := 2, ground := Go.Ground.phase }], guard := none }) (v := .bool true) rfl (by kernel_rfl) (by kernel_rfl) (by kernel_rfl) (fun _ _ _ h => h) (Or.inl ⟨by rfl, fun w => by go_simp⟩) ?_
                    simp only [Act.put, List.setIfInBounds_toArray, List.set_cons_zero, List.set_cons_succ]
                    refine wpAny_take (i := 4) (oi := { dst := some 6, op := Go.Op.assign (Go.Operand.const (Go.Value.int Go.IntKind.i64 0)), type := 3, pos := "ref.go:140", after := #[{ on := 3, ground := Go.Ground.chain }, { on := 0, ground := Go.Ground.phase }, { on := 1, ground := Go.Ground.textOnly Go.Departure.lateStores }, { on := 2, ground := Go.Ground.phase }, { on := 3, ground := Go.Ground.phase }], guard := none }) (v := .int .i64 0) rfl (by kernel_rfl) (by kernel_rfl) (by kernel_rfl) (fun _ _ _ h => h) (Or.inl ⟨by rfl, fun w => by go_simp⟩) ?_
                    simp only [Act.put, List.setIfInBounds_toArray, List.set_cons_zero, List.set_cons_succ]
                    refine wpAny_ready (rs := [1]) (by kernel_rfl) (by simp) ?_
                    refine AllReady.cons (o := { dst := some 149, op := Go.Op.load 51 (Go.Operand.tmp 2), type := 51, pos := "ref.go:140", after := #[{ on := 4, ground := Go.Ground.gcOnly Go.Departure.lateStores }], guard := none }) rfl (fun K hK => ?_) AllReady.nil
                    refine wp_load_row 51 (.tmp 2) rfl F rfl 51 (rjc R3 (.slice a2 (n1 + 1) c2)) (0, 0) _ HD.out.j Try.underlying51 rfl info51s ?_
                    refine hK _ _ ?_
                    clear hK K
                    try simp only [Act.put, List.setIfInBounds_toArray, List.set_cons_zero, List.set_cons_succ]
                    refine wpAny_ready (rs := [5]) (by kernel_rfl) (by simp) ?_
                    refine AllReady.cons (o := { dst := none, op := Go.Op.store 51 (Go.Operand.tmp 7) (Go.Operand.tmp 149), type := 0, pos := "ref.go:140", after := #[{ on := 1, ground := Go.Ground.data }, { on := 4, ground := Go.Ground.chain }, { on := 0, ground := Go.Ground.phase }, { on := 1, ground := Go.Ground.phase }, { on := 2, ground := Go.Ground.phase }, { on := 3, ground := Go.Ground.phase }, { on := 4, ground := Go.Ground.phase }], guard := none }) rfl (fun K hK => ?_) AllReady.nil
                    refine wp_store_mid 51 (.tmp 7) (.tmp 149) rfl (F + 1 + 1) 0 (rjc R3 (.slice a2 (n1 + 1) c2)) rfl rfl HTH.out info51s H1C.out ?_
                    refine hK _ _ ?_
                    clear hK K
                    try simp only [Act.put, List.setIfInBounds_toArray, List.set_cons_zero, List.set_cons_succ]
                    refine wpAny_done (by kernel_rfl) ?_ _
                    refine ex_worldL (fun W => Turn (F + 1 + 1) (.cells (rjc R3 (.slice a2 (n1 + 1) c2)) 51) w9 W) HTU.out ?_
                    intro W5 hT5
                    have HT5 := Kp.mk hT5
                    clear hT5 HTU HTH H1C
                    go_wp2_with fail
                    have HBK := Kp.mk HT5.out.blk
                    exact bodyPost_ret (results_3c rfl _ _ (F + 1 + 1) 51 _ (0, 0) _ rfl HBK.out Try.underlying51 rfl info51s) rfl ⟨.slice ba bn bc, (.slice a2 (n1 + 1) c2), by rw [HR.out]; rfl, by rw [HR.out]; exact HD.out.body HBD.out HT5.out, by rw [HR.out]; exact HD.out.qrow HT5.out, by rw [← HFe.out]; exact HD.out.end_ HT5.out⟩
end Go.Proofs.Ytlgcpfeaecpocaa
