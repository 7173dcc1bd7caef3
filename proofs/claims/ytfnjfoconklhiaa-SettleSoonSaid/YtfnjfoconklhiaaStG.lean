/-
  Plan.Due.
-/
import Derived.Test.YtfnjfoconklhiaaStF
import Derived.Deep.RegionHeld3
namespace Go.Proofs.Ytfnjfoconklhiaa
open Go.RowKit

/-- The world of Due: the plan, and the boxes of what came in. -/
structure DS (q : PS) (now : Int) (b B2 B3 : Nat) (w w' : World) : Prop where
  t : Turn b q.obj w w'
  b2 : Blk w' B2 (.cells #[.pointer (some ⟨b, 0, none⟩)] 26)
  b3 : Blk w' B3 (.cells #[.int .i64 now] 2)
  lt : b < w.heap.size
  l2 : w.heap.size ≤ B2
  l3 : w.heap.size ≤ B3
theorem DS.dq {q : PS} {now : Int} {b B2 B3 : Nat} {w w' : World} (h : DS q now b B2 B3 w w') : DQ q now b B2 B3 w' := ⟨h.t.blk, h.b2, h.b3⟩
theorem DS.more {q : PS} {now : Int} {b B2 B3 : Nat} {w w' w2 : World} (h : DS q now b B2 B3 w w') (hb : Below w'.heap.size w' w2) : DS q now b B2 B3 w w2 := ⟨h.t.more hb, h.b2.keep hb, h.b3.keep hb, h.lt, h.l2, h.l3⟩
theorem DS.drew {q : PS} {now : Int} {b B2 B3 : Nat} {w w' : World} (h : DS q now b B2 B3 w w') : DS q now b B2 B3 w w'.drew := ⟨h.t.drew, h.b2.draw, h.b3.draw, h.lt, h.l2, h.l3⟩
theorem DS.turn {q q' : PS} {now : Int} {b B2 B3 : Nat} {w w' w2 : World} (h : DS q now b B2 B3 w w') (k : Turn b q'.obj w' w2) : DS q' now b B2 B3 w w2 :=
  ⟨h.t.trans k, k.keep h.b2 (by have := h.lt; have := h.l2; omega), k.keep h.b3 (by have := h.lt; have := h.l3; omega), h.lt, h.l2, h.l3⟩
def DuePost (p : PS) (now : Int) (b : Nat) (w : World) (r : Ending) (w' : World) : Prop :=
  ∃ v, r = .returned (.tuple #[.bool (p.dueF now), v]) ∧ w'.ownsRow w.heap.size 3 1 v (p.dueL now).length (nv (p.dueL now)) ∧ Turn b (p.due now).obj w w'
theorem sub_in {a b : Int} (h : tmB a = true) (hb : tmB b = true) : IntKind.i64.wrap (a - b) = a - b := by
  have : 0 ≤ a ∧ a ≤ 1099511627776 := by simpa [tmB] using h
  have : 0 ≤ b ∧ b ≤ 1099511627776 := by simpa [tmB] using hb
  exact IntWalk.i64_in _ (by omega)
theorem told_cells (p : PS) (now : Int) : ((pcs p).toArray.setIfInBounds 2 (.bool true)).setIfInBounds 3 (.int .i64 now) = (pcs { p with ever := true, told := now }).toArray := rfl
theorem due_nil (now : Int) (w : World) : Calls Try.prog 14 #[.pointer none, .int .i64 now] w fun r w' => r = .returned (.tuple #[.bool false, .slice none 0 0]) ∧ Below w.heap.size w w' := by
  have K : Kp (∀ o o', Below w.heap.size w ((w.alloc o).alloc o')) := ⟨fun o o' => more (more (Below.refl _ _) _) _⟩
  go_enter Try.func14, Try.ntmps14
  go_wp2_with fail
  go_ret2
  exact ⟨rfl, K.out _ _⟩
set_option maxRecDepth 100000 in
set_option maxHeartbeats 3200000 in
theorem due_any (p : PS) (now : Int) (b : Nat) (w : World) (h : Blk w b p.obj) (hp : p.Ok) : Calls Try.prog 14 #[.pointer (some ⟨b, 0, none⟩), .int .i64 now] w (DuePost p now b w) := by
  obtain ⟨B2, hB2⟩ : ∃ B2, B2 = w.heap.size := ⟨_, rfl⟩
  obtain ⟨B3, hB3⟩ : ∃ B3, B3 = w.heap.size + 1 := ⟨_, rfl⟩
  have D0 : Kp (DS p now b B2 B3 w ((w.alloc (.cells #[.pointer (some ⟨b, 0, none⟩)] 26)).alloc (.cells #[.int .i64 now] 2))) :=
    ⟨⟨(Turn.same h).more (more (more (Below.refl _ _) _) _), (Blk.newAt _ hB2).old _, Blk.newAt _ (by rw [hB3]; simp), h.lt, by omega, by omega⟩⟩
  have HP := Kp.mk hp
  have HE := Kp.mk (And.intro hB2 hB3)
  clear h hp
  cases ht : tmB now with
  | false =>
    have HD : Kp (p.dueF now = false ∧ p.dueL now = [] ∧ p.due now = p) := ⟨by simp [PS.dueF, ht], by simp [PS.dueL, ht], by simp [PS.due, ht]⟩
    go_enter Try.func14, Try.ntmps14
    go_wp2_with fail
    refine (time_any now _).mono ?_
    rintro r w1 ⟨rfl, rfl⟩
    rw [ht]
    clear ht
    go_wp2_with fail
    go_ret2
    exact ⟨.slice none 0 0, by rw [HD.out.1]; rfl, by rw [HD.out.2.1]; exact World.ownsRow_nil _ _ _ _, by rw [HD.out.2.2]; exact D0.out.t⟩
  | true =>
    have HT := Kp.mk ht
    have HS := sub_in ht HP.out.told
    have HW : wrap64 (now - p.told) = now - p.told := by rw [← IntWalk.i64_left]; exact HS
    have HSK := Kp.mk HS
    go_enter Try.func14, Try.ntmps14
    go_wp2_with fail
    refine (time_any now _).mono ?_
    rintro r w1 ⟨rfl, rfl⟩
    rw [ht]
    rw [← hB2]
    clear ht
    have e3 : B2 + 1 = B3 := by rw [hB3, hB2]
    rw [e3]
    clear hB2 hB3 e3
    revert D0
    generalize (w.alloc (.cells #[.pointer (some ⟨b, 0, none⟩)] 26)).alloc (.cells #[.int .i64 now] 2) = W0
    intro D0
    obtain ⟨c2, f2⟩ := D0.out.b2.one
    obtain ⟨c3, f3⟩ := D0.out.b3.one
    by_cases hf : p.full now = true
    · have HFD : Kp (p.dueF now = true ∧ p.dueL now = [] ∧ p.due now = ({ p with ever := true, told := now } : PS).tell (those { p with ever := true, told := now } (fun n => n.waits) 8)) := ⟨by simp [PS.dueF, HT.out, hf], by simp [PS.dueL, HT.out, hf], by simp only [PS.due, HT.out, hf, if_true]; rfl⟩
      have he : p.ever = false ∨ p.ever = true ∧ p.period ≤ now - p.told := by
        cases hv : p.ever
        · exact .inl rfl
        · right
          simpa [PS.full, hv] using hf
      clear hf
      clear HW HS c2 f2 c3 f3
      rcases he with he | ⟨he, hle⟩
      case' inl =>
        have HV : ∀ wx, Blk wx b p.obj → wx.cell? ⟨b, 2, none⟩ = some (.bool false) := fun wx hx => (hx.cell 2).trans (by rw [← he]; rfl)
        clear he
        go_wp2_with fail
        refine wp_region_flow (fun w' => DS p now b B2 B3 w w') (by kernel_rfl) (by kernel_rfl) (by kernel_rfl)
          (fun _ _ h hb => h.more hb) (D0.out.drew) ?_
        repeat (first
          | (apply Flow.idle
             · rfl
             try simp only [Act.put, List.setIfInBounds_toArray, List.set_cons_zero, List.set_cons_succ])
          | (apply Flow.value
             · rfl
             · (intro wx hS; have v1 := HV wx hS.t.blk; obtain ⟨q2, -⟩ := hS.b2.one; obtain ⟨q3, -⟩ := hS.b3.one; go_simp; with_reducible rfl)
             try simp only [Act.put, List.setIfInBounds_toArray, List.set_cons_zero, List.set_cons_succ]))
        refine Flow.done ?_
      case' inr =>
        have HV : ∀ wx, Blk wx b p.obj → wx.cell? ⟨b, 2, none⟩ = some (.bool true) ∧ wx.cell? ⟨b, 3, none⟩ = some (.int .i64 p.told) ∧ wx.cell? ⟨b, 0, none⟩ = some (.int .i64 p.period) := fun wx hx => ⟨(hx.cell 2).trans (by rw [← he]; rfl), hx.cell 3, hx.cell 0⟩
        have HS := HSK.out
        clear he
        go_wp2_with fail
        refine wp_region_flow (fun w' => DS p now b B2 B3 w w') (by kernel_rfl) (by kernel_rfl) (by kernel_rfl)
          (fun _ _ h hb => h.more hb) (D0.out.drew) ?_
        repeat (first
          | (apply Flow.idle
             · rfl
             try simp only [Act.put, List.setIfInBounds_toArray, List.set_cons_zero, List.set_cons_succ])
          | (apply Flow.value
             · rfl
             · (intro wx hS; obtain ⟨v1, v2, v3⟩ := HV wx hS.t.blk; obtain ⟨q2, -⟩ := hS.b2.one; obtain ⟨q3, -⟩ := hS.b3.one; go_simp; with_reducible rfl)
             try simp only [Act.put, List.setIfInBounds_toArray, List.set_cons_zero, List.set_cons_succ]))
        refine Flow.done ?_
      all_goals
        intro w3 hS
        have D3 := Kp.mk hS
        clear hS HV D0
        obtain ⟨c2, f2⟩ := D3.out.b2.one
        obtain ⟨c3, f3⟩ := D3.out.b3.one
        have g2 := D3.out.t.blk.frozen 2
        have g3 := D3.out.t.blk.frozen 3
        have p2 : w3.cell? ⟨b, 2, none⟩ = some (.bool p.ever) := D3.out.t.blk.cell 2
        have p3 : w3.cell? ⟨b, 3, none⟩ = some (.int .i64 p.told) := D3.out.t.blk.cell 3
        go_wp2_with fail
        refine wp_region_held_drew (S := fun w' => Blk w' B2 (.cells #[.pointer (some ⟨b, 0, none⟩)] 26) ∧ Blk w' B3 (.cells #[.int .i64 now] 2)) (by kernel_rfl) (⟨D3.out.b2.draw, D3.out.b3.draw⟩) (fun hH => ?_)
        refine wpAnyH_take (i := 0) (oi := { dst := some 32, op := Go.Op.load 26 (Go.Operand.tmp 2), type := 26, pos := "settle.go:72", after := #[], guard := none }) (v := .pointer (some ⟨b, 0, none⟩)) rfl (by kernel_rfl) (by kernel_rfl) (by kernel_rfl) (fun _ _ _ h => h) (Or.inl ⟨by rfl, fun w hS => by obtain ⟨q2, -⟩ := hS.1.one; obtain ⟨q3, -⟩ := hS.2.one; go_simp⟩) hH ?_
        simp only [Act.put, List.setIfInBounds_toArray, List.set_cons_zero, List.set_cons_succ]
        refine wpAnyH_take (i := 1) (oi := { dst := some 33, op := Go.Op.load 26 (Go.Operand.tmp 2), type := 26, pos := "settle.go:72", after := #[{ on := 5, ground := Go.Ground.gcOnly Go.Departure.lateStores }], guard := none }) (v := .pointer (some ⟨b, 0, none⟩)) rfl (by kernel_rfl) (by kernel_rfl) (by kernel_rfl) (fun _ _ _ h => h) (Or.inl ⟨by rfl, fun w hS => by obtain ⟨q2, -⟩ := hS.1.one; obtain ⟨q3, -⟩ := hS.2.one; go_simp⟩) hH ?_
        simp only [Act.put, List.setIfInBounds_toArray, List.set_cons_zero, List.set_cons_succ]
        refine wpAnyH_take (i := 2) (oi := { dst := some 34, op := Go.Op.load 2 (Go.Operand.tmp 3), type := 2, pos := "settle.go:72", after := #[{ on := 5, ground := Go.Ground.gcOnly Go.Departure.lateStores }], guard := none }) (v := .int .i64 now) rfl (by kernel_rfl) (by kernel_rfl) (by kernel_rfl) (fun _ _ _ h => h) (Or.inl ⟨by rfl, fun w hS => by obtain ⟨q2, -⟩ := hS.1.one; obtain ⟨q3, -⟩ := hS.2.one; go_simp⟩) hH ?_
        simp only [Act.put, List.setIfInBounds_toArray, List.set_cons_zero, List.set_cons_succ]
        refine wpAnyH_take (i := 3) (oi := { dst := some 35, op := Go.Op.nilCheck (Go.Operand.tmp 32), type := 0, pos := "settle.go:72", after := #[{ on := 0, ground := Go.Ground.data }, { on := 0, ground := Go.Ground.phase }, { on := 1, ground := Go.Ground.textOnly Go.Departure.lateStores }, { on := 2, ground := Go.Ground.textOnly Go.Departure.lateStores }], guard := none }) (v := .pointer (some ⟨b, 0, none⟩)) rfl (by kernel_rfl) (by kernel_rfl) (by kernel_rfl) (fun _ _ _ h => h) (Or.inl ⟨by rfl, fun w hS => by go_simp⟩) hH ?_
        simp only [Act.put, List.setIfInBounds_toArray, List.set_cons_zero, List.set_cons_succ]
        refine wpAnyH_take (i := 4) (oi := { dst := some 36, op := Go.Op.fieldAddr 72 (Go.Operand.tmp 35) 1, type := 0, pos := "settle.go:72", after := #[{ on := 3, ground := Go.Ground.data }, { on := 0, ground := Go.Ground.phase }, { on := 1, ground := Go.Ground.textOnly Go.Departure.lateStores }, { on := 2, ground := Go.Ground.textOnly Go.Departure.lateStores }], guard := none }) (v := .pointer (some ⟨b, 2, none⟩)) rfl (by kernel_rfl) (by kernel_rfl) (by kernel_rfl) (fun _ _ _ h => h) (Or.inl ⟨by rfl, fun w hS => by go_simp⟩) hH ?_
        simp only [Act.put, List.setIfInBounds_toArray, List.set_cons_zero, List.set_cons_succ]
        refine wpAnyH_ready (rs := [5]) (by kernel_rfl) (by simp) ?_
        refine AllReadyH.cons (o := { dst := none, op := Go.Op.store 4 (Go.Operand.tmp 36) (Go.Operand.const (Go.Value.bool true)), type := 0, pos := "settle.go:72", after := #[{ on := 4, ground := Go.Ground.data }, { on := 0, ground := Go.Ground.phase }, { on := 1, ground := Go.Ground.textOnly Go.Departure.lateStores }, { on := 2, ground := Go.Ground.textOnly Go.Departure.lateStores }], guard := none }) rfl (fun K hK => ?_) AllReadyH.nil
        go_simp
        have D35 : Kp (Turn b (.cells ((pcs p).toArray.setIfInBounds 2 (.bool true)) 72) w3 (w3.drew.setCell ⟨b, 2, none⟩ (.bool true))) := ⟨((Turn.same D3.out.t.blk).drew).set 2 _⟩
        have S35 : Kp (Blk (w3.drew.setCell ⟨b, 2, none⟩ (.bool true)) B2 (.cells #[.pointer (some ⟨b, 0, none⟩)] 26) ∧ Blk (w3.drew.setCell ⟨b, 2, none⟩ (.bool true)) B3 (.cells #[.int .i64 now] 2)) := ⟨D35.out.keep D3.out.b2 (by have := D3.out.lt; have := D3.out.l2; omega), D35.out.keep D3.out.b3 (by have := D3.out.lt; have := D3.out.l3; omega)⟩
        refine hK.out _ _ (S35.out) (fun hHn => ?_)
        clear hK K hH
        have hH := hHn
        clear hHn
        try simp only [Act.put, List.setIfInBounds_toArray, List.set_cons_zero, List.set_cons_succ]
        refine wpAnyH_take (i := 6) (oi := { dst := some 37, op := Go.Op.nilCheck (Go.Operand.tmp 33), type := 0, pos := "settle.go:72", after := #[{ on := 1, ground := Go.Ground.data }, { on := 0, ground := Go.Ground.phase }, { on := 1, ground := Go.Ground.phase }, { on := 2, ground := Go.Ground.phase }, { on := 3, ground := Go.Ground.phase }, { on := 4, ground := Go.Ground.phase }, { on := 5, ground := Go.Ground.phase }], guard := none }) (v := .pointer (some ⟨b, 0, none⟩)) rfl (by kernel_rfl) (by kernel_rfl) (by kernel_rfl) (fun _ _ _ h => h) (Or.inl ⟨by rfl, fun w hS => by go_simp⟩) hH ?_
        simp only [Act.put, List.setIfInBounds_toArray, List.set_cons_zero, List.set_cons_succ]
        refine wpAnyH_take (i := 7) (oi := { dst := some 38, op := Go.Op.fieldAddr 72 (Go.Operand.tmp 37) 2, type := 0, pos := "settle.go:72", after := #[{ on := 6, ground := Go.Ground.data }, { on := 0, ground := Go.Ground.phase }, { on := 1, ground := Go.Ground.phase }, { on := 2, ground := Go.Ground.phase }, { on := 3, ground := Go.Ground.phase }, { on := 4, ground := Go.Ground.phase }, { on := 5, ground := Go.Ground.phase }], guard := none }) (v := .pointer (some ⟨b, 3, none⟩)) rfl (by kernel_rfl) (by kernel_rfl) (by kernel_rfl) (fun _ _ _ h => h) (Or.inl ⟨by rfl, fun w hS => by go_simp⟩) hH ?_
        simp only [Act.put, List.setIfInBounds_toArray, List.set_cons_zero, List.set_cons_succ]
        refine wpAnyH_ready (rs := [8]) (by kernel_rfl) (by simp) ?_
        refine AllReadyH.cons (o := { dst := none, op := Go.Op.store 2 (Go.Operand.tmp 38) (Go.Operand.tmp 34), type := 0, pos := "settle.go:72", after := #[{ on := 7, ground := Go.Ground.data }, { on := 2, ground := Go.Ground.data }, { on := 5, ground := Go.Ground.chain }, { on := 0, ground := Go.Ground.phase }, { on := 1, ground := Go.Ground.phase }, { on := 2, ground := Go.Ground.phase }, { on := 3, ground := Go.Ground.phase }, { on := 4, ground := Go.Ground.phase }, { on := 5, ground := Go.Ground.phase }], guard := none }) rfl (fun K hK => ?_) AllReadyH.nil
        have p3' : (w3.drew.setCell ⟨b, 2, none⟩ (.bool true)).cell? ⟨b, 3, none⟩ = some (.int .i64 p.told) := D35.out.blk.cell 3
        have g3' := D35.out.blk.frozen 3
        go_simp
        have D4' : Kp (DS { p with ever := true, told := now } now b B2 B3 w ((w3.drew.setCell ⟨b, 2, none⟩ (.bool true)).setCell ⟨b, 3, none⟩ (.int .i64 now))) := ⟨D3.out.turn (q' := { p with ever := true, told := now }) ((D35.out.set 3 (.int .i64 now)).as rfl)⟩
        refine hK.out _ _ (⟨D4'.out.b2, D4'.out.b3⟩) (fun hHn => ?_)
        clear hK K hH
        have hH := hHn
        clear hHn
        try simp only [Act.put, List.setIfInBounds_toArray, List.set_cons_zero, List.set_cons_succ]
        clear hH
        refine wpAnyH_done (by kernel_rfl) ?_ _
        have D4 : Kp (DS { p with ever := true, told := now } now b B2 B3 w ((w3.setCell ⟨b, 2, none⟩ (.bool true)).setCell ⟨b, 3, none⟩ (.int .i64 now)).drew) := D4'
        clear D4'
        revert D4
        generalize World.drew _ = w4
        intro D4
        clear D3 D35 S35 c2 f2 c3 f3 g2 g3 p2 p3 p3' g3'
        obtain ⟨q, hq⟩ : ∃ q : PS, q = { p with ever := true, told := now } := ⟨_, rfl⟩
        rw [← hq] at D4 HFD
        clear hq
        go_wp2_with fail
        refine wp_region_held_drew (S := fun w' => Blk w' B2 (.cells #[.pointer (some ⟨b, 0, none⟩)] 26)) (by kernel_rfl) (D4.out.b2.draw) (fun hH => ?_)
        refine wpAnyH_take (i := 0) (oi := { dst := some 39, op := Go.Op.load 26 (Go.Operand.tmp 2), type := 26, pos := "settle.go:73", after := #[], guard := none }) (v := .pointer (some ⟨b, 0, none⟩)) rfl (by kernel_rfl) (by kernel_rfl) (by kernel_rfl) (fun _ _ _ h => h) (Or.inl ⟨by rfl, fun w hS => by obtain ⟨q2, -⟩ := Blk.one hS; go_simp⟩) hH ?_
        simp only [Act.put, List.setIfInBounds_toArray, List.set_cons_zero, List.set_cons_succ]
        refine wpAnyH_take (i := 1) (oi := { dst := some 40, op := Go.Op.load 26 (Go.Operand.tmp 2), type := 26, pos := "settle.go:73", after := #[], guard := none }) (v := .pointer (some ⟨b, 0, none⟩)) rfl (by kernel_rfl) (by kernel_rfl) (by kernel_rfl) (fun _ _ _ h => h) (Or.inl ⟨by rfl, fun w hS => by obtain ⟨q2, -⟩ := Blk.one hS; go_simp⟩) hH ?_
        simp only [Act.put, List.setIfInBounds_toArray, List.set_cons_zero, List.set_cons_succ]
        refine wpAnyH_ready (rs := [2]) (by kernel_rfl) (by simp) ?_
        refine AllReadyH.cons (o := { dst := some 41, op := Go.Op.call { callee := Go.Callee.value (Go.Operand.func 18), args := #[Go.Operand.tmp 40], argTypes := #[26] }, type := 48, pos := "settle.go:73", after := #[{ on := 1, ground := Go.Ground.data }], guard := none }) rfl (fun K hK => ?_) AllReadyH.nil
        go_simp
        refine (waits_any q b _ D4.out.t.blk.draw).mono ?_
        rintro r w5 ⟨v, rfl, ho, hb⟩
        have D5 : Kp (DS q now b B2 B3 w w5) := ⟨D4.out.drew.more hb⟩
        have O5 := Kp.mk ho
        clear ho hb
        refine hK.out _ _ (D5.out.b2) (fun hHn => ?_)
        clear hK K hH
        have hH := hHn
        clear hHn
        try simp only [Act.put, List.setIfInBounds_toArray, List.set_cons_zero, List.set_cons_succ]
        refine wpAnyH_ready (rs := [3]) (by kernel_rfl) (by simp) ?_
        refine AllReadyH.cons (o := { dst := some 42, op := Go.Op.call { callee := Go.Callee.value (Go.Operand.func 25), args := #[Go.Operand.tmp 39, Go.Operand.tmp 41], argTypes := #[26, 48] }, type := 0, pos := "settle.go:73", after := #[{ on := 0, ground := Go.Ground.data }, { on := 2, ground := Go.Ground.data }, { on := 2, ground := Go.Ground.chain }], guard := none }) rfl (fun K hK => ?_) AllReadyH.nil
        go_simp
        refine (tell_any q b _ v _ w5 D5.out.t.blk O5.out (fun x hx => (those_mem.1 hx).1) (those_len _ _ _)).mono ?_
        rintro r w6 ⟨rfl, hT⟩
        have D6 : Kp (DS (q.tell (those q (fun n => n.waits) 8)) now b B2 B3 w w6) := ⟨D5.out.turn hT⟩
        clear hT
        refine hK.out _ _ (D6.out.b2) (fun hHn => ?_)
        clear hK K hH
        have hH := hHn
        clear hHn
        try simp only [Act.put, List.setIfInBounds_toArray, List.set_cons_zero, List.set_cons_succ]
        clear hH
        refine wpAnyH_done (by kernel_rfl) ?_ _
        go_wp2_with fail
        go_ret2
        exact ⟨.slice none 0 0, by rw [HFD.out.1]; rfl, by rw [HFD.out.2.1]; exact World.ownsRow_nil _ _ _ _, by rw [HFD.out.2.2]; exact D6.out.t⟩
    · have hf' : p.full now = false := by simpa using hf
      have HFD : Kp (p.dueF now = false ∧ p.dueL now = those p (p.ripe now) 8 ∧ p.due now = p.tell (those p (p.ripe now) 8)) := ⟨by simp [PS.dueF, hf'], by simp [PS.dueL, HT.out, hf'], by simp [PS.due, HT.out, hf']⟩
      obtain ⟨he, hlt⟩ : p.ever = true ∧ now - p.told < p.period := by
        unfold PS.full at hf'
        cases hv : p.ever <;> simp [hv] at hf' ⊢
        exact hf'
      clear hf hf' HW HS c2 f2 c3 f3
      have HV : ∀ wx, Blk wx b p.obj → wx.cell? ⟨b, 2, none⟩ = some (.bool true) ∧ wx.cell? ⟨b, 3, none⟩ = some (.int .i64 p.told) ∧ wx.cell? ⟨b, 0, none⟩ = some (.int .i64 p.period) := fun wx hx => ⟨(hx.cell 2).trans (by rw [← he]; rfl), hx.cell 3, hx.cell 0⟩
      have HS := HSK.out
      clear he
      go_wp2_with fail
      refine wp_region_flow (fun w' => DS p now b B2 B3 w w') (by kernel_rfl) (by kernel_rfl) (by kernel_rfl)
        (fun _ _ h hb => h.more hb) (D0.out.drew) ?_
      repeat (first
        | (apply Flow.idle
           · rfl
           try simp only [Act.put, List.setIfInBounds_toArray, List.set_cons_zero, List.set_cons_succ])
        | (apply Flow.value
           · rfl
           · (intro wx hS; obtain ⟨v1, v2, v3⟩ := HV wx hS.t.blk; obtain ⟨q2, -⟩ := hS.b2.one; obtain ⟨q3, -⟩ := hS.b3.one; go_simp; with_reducible rfl)
           try simp only [Act.put, List.setIfInBounds_toArray, List.set_cons_zero, List.set_cons_succ]))
      refine Flow.done ?_
      intro w3 hS
      have D3 := Kp.mk hS
      clear hS HV D0
      obtain ⟨c2, f2⟩ := D3.out.b2.one
      obtain ⟨c3, f3⟩ := D3.out.b3.one
      go_wp2_with fail
      have HR : rtB p.period p.settle = true := HP.out.right
      refine (those_due p now b B2 B3 w3 HP.out.first (by have : 1 ≤ p.period ∧ p.period ≤ 1048576 ∧ 0 ≤ p.settle ∧ p.settle ≤ 1048576 := by simpa [rtB] using HR
                                                          omega) D3.out.dq).mono ?_
      rintro r w4 ⟨v, rfl, ho, hb⟩
      have D4 : Kp (DS p now b B2 B3 w w4) := ⟨D3.out.more hb⟩
      have O4 : Kp (w4.ownsRow w.heap.size 3 1 v (those p (p.ripe now) 8).length (nv (those p (p.ripe now) 8))) := ⟨ownsRow_base ho D3.out.t.size⟩
      clear ho hb D3 c2 f2 c3 f3 HR
      obtain ⟨c2, f2⟩ := D4.out.b2.one
      go_wp2_with fail
      refine (tell_any p b _ v _ w4 D4.out.t.blk O4.out (fun x hx => (those_mem.1 hx).1) (those_len _ _ _)).mono ?_
      rintro r w5 ⟨rfl, hT⟩
      have D5 : Kp (DS (p.tell (those p (p.ripe now) 8)) now b B2 B3 w w5) := ⟨D4.out.turn hT⟩
      have O5 := Kp.mk (row_turn O4.out D4.out.t.blk (by decide) hT)
      clear hT
      go_wp2_with fail
      go_ret2
      exact ⟨v, by rw [HFD.out.1]; rfl, by rw [HFD.out.2.1]; exact O5.out, by rw [HFD.out.2.2]; exact D5.out.t⟩
end Go.Proofs.Ytfnjfoconklhiaa
