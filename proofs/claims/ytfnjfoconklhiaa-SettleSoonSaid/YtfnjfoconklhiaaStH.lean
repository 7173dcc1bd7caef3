/-
  Plan.Note.
-/
import Derived.Test.YtfnjfoconklhiaaStG
namespace Go.Proofs.Ytfnjfoconklhiaa
open Go.RowKit

theorem PS.put_self (p : PS) (d : Nat) : p.put d (p.all d) = p := by
  unfold PS.put
  cases p
  simp only [PS.mk.injEq, true_and]
  funext i
  split
  · rename_i h; rw [h]
  · rfl
theorem PS.put_put (p : PS) (d : Nat) (n n' : NW) : (p.put d n).put d n' = p.put d n' := by
  unfold PS.put
  simp only [PS.mk.injEq, true_and]
  funext i
  split <;> rfl
theorem PS.put_all (p : PS) (d : Nat) (n : NW) : (p.put d n).all d = n := by simp [PS.put]
theorem Turn.nw {p : PS} {k j b : Nat} {n n' : NW} {v : Value} {w w1 : World} (h : Turn b (p.put k n).obj w w1) (hk : k < 8) (hj : j < 7) (e : nwc n' = (nwc n).set j v) : Turn b (p.put k n').obj w (w1.setCell ⟨b, 4 + k * 7 + j, none⟩ v) := by
  have h1 := h.set (4 + k * 7 + j) v
  rw [List.setIfInBounds_toArray, pcs_set (p.put k n) hk hj (n := n') (by rw [PS.put_all]; exact e), PS.put_put] at h1
  exact h1
theorem put_cell {p : PS} {k j b : Nat} {n : NW} {v : Value} {w : World} (h : Blk w b (p.put k n).obj) (hk : k < 8) (hj : j < 7) (e : (nwc n)[j]? = some v) : w.cell? ⟨b, 4 + k * 7 + j, none⟩ = some v := by
  rw [h.cell (4 + k * 7 + j), List.getElem?_toArray, pcs_at _ hk hj, PS.put_all]
  exact e
theorem key_range {p : PS} {k b : Nat} {n : NW} {w : World} (h : Blk w b (p.put k n).obj) (hk : k < 8) : w.rangeAt b (4 + k * 7 + 1) [.int .u32 n.e, .int .u32 n.s, .int .i64 n.m] := fun j v hv => by
  have hj : j < 3 := (List.getElem?_eq_some_iff.1 hv).1
  match j, hj with
  | 0, _ => exact put_cell h hk (j := 1) (by omega) hv
  | 1, _ => exact put_cell h hk (j := 2) (by omega) hv
  | 2, _ => exact put_cell h hk (j := 3) (by omega) hv
/-- Note. -/
def NotePost (p : PS) (now d e s m : Int) (u : Bool) (b : Nat) (w : World) (r : Ending) (w' : World) : Prop :=
  r = .returned (.int .i64 (if noteB now d e s m = true then 0 else 1)) ∧ Turn b (p.note now d e s m u).obj w w'
theorem note_nil (now d e s m : Int) (u : Bool) (w : World) : Calls Try.prog 12 #[.pointer none, .int .i64 now, .int .i64 d, keyV e s m, .bool u] w fun r w' => r = .returned (.int .i64 2) ∧ Below w.heap.size w w' := by
  have K : Kp (∀ o, Below w.heap.size w (w.alloc o)) := ⟨fun o => more (Below.refl _ _) _⟩
  go_enter Try.func12, Try.ntmps12
  go_wp2_with fail
  go_ret
  exact ⟨rfl, K.out _⟩
theorem note_no {p : PS} {now d e s m : Int} {u : Bool} {b : Nat} {w w' : World} {r : Ending} (hB : noteB now d e s m = false) (hr : r = .returned (.int .i64 1)) (hT : Turn b p.obj w w') : NotePost p now d e s m u b w r w' := by
  unfold NotePost PS.note
  rw [hB]
  exact ⟨hr, hT⟩
set_option maxRecDepth 100000 in
set_option maxHeartbeats 3200000 in
theorem note_any (p : PS) (now d e s m : Int) (u : Bool) (b : Nat) (w : World) (h : Blk w b p.obj) :
    Calls Try.prog 12 #[.pointer (some ⟨b, 0, none⟩), .int .i64 now, .int .i64 d, keyV e s m, .bool u] w (NotePost p now d e s m u b w) := by
  obtain ⟨C, hC⟩ : ∃ C, C = w.heap.size := ⟨_, rfl⟩
  have D0 : Kp (Turn b p.obj w (w.alloc (.cells #[.int .u32 e, .int .u32 s, .int .i64 m] 46)) ∧ Blk (w.alloc (.cells #[.int .u32 e, .int .u32 s, .int .i64 m] 46)) C (.cells #[.int .u32 e, .int .u32 s, .int .i64 m] 46)) := ⟨(Turn.same h).alloc _, Blk.newAt _ hC⟩
  have HBC : Kp (b ≠ C) := ⟨by have := h.lt; omega⟩
  clear h
  by_cases hd : 0 ≤ d ∧ d < 8
  · cases ht : tmB now with
    | false =>
      have HN : Kp (noteB now d e s m = false) := ⟨by simp [noteB, ht]⟩
      go_enter Try.func12, Try.ntmps12
      go_wp2_with fail
      refine (time_any now _).mono ?_
      rintro r w1 ⟨rfl, rfl⟩
      rw [ht]
      clear ht
      go_wp2_with fail
      go_ret
      exact note_no HN.out rfl D0.out.1
    | true =>
      cases hk : krB e s m with
      | false =>
        have HN : Kp (noteB now d e s m = false) := ⟨by simp [noteB, hk]⟩
        have HR := fun w1 => kright_any e s m w1
        rw [hk] at HR
        clear hk
        go_enter Try.func12, Try.ntmps12
        go_wp2_with fail
        refine (time_any now _).mono ?_
        rintro r w1 ⟨rfl, rfl⟩
        rw [ht]
        clear ht
        go_wp2_with fail
        refine (HR _).mono ?_
        rintro r w1 ⟨rfl, hb⟩
        have D1 := Kp.mk (D0.out.1.more hb)
        clear hb HR
        go_wp2_with fail
        go_ret
        exact note_no HN.out rfl D1.out
      | true =>
        have HN : Kp (noteB now d e s m = true) := ⟨by simp [noteB, hk, ht, hd]⟩
        have HR := fun w1 => kright_any e s m w1
        rw [hk] at HR
        obtain ⟨k, rfl⟩ : ∃ k : Nat, d = k := ⟨d.toNat, by omega⟩
        have HK8 : Kp (k < 8) := ⟨by omega⟩
        obtain ⟨x, hx⟩ : ∃ x, x = (p.all k).note now e s m u := ⟨_, rfl⟩
        have HXE := Kp.mk hx
        have HP : Kp (NotePost p now k e s m u b w = fun r w' => r = .returned (.int .i64 0) ∧ Turn b (p.put k x).obj w w') := ⟨by
          funext r w'
          unfold NotePost PS.note
          rw [HN.out, hx]
          simp⟩
        rw [HP.out]
        clear hx HP
        clear hk
        go_enter Try.func12, Try.ntmps12
        go_wp2_with fail
        refine (time_any now _).mono ?_
        rintro r w1 ⟨rfl, rfl⟩
        rw [ht]
        clear ht
        go_wp2_with fail
        refine (HR _).mono ?_
        rintro r w2 ⟨rfl, hb⟩
        have D2 : Kp (Turn b (p.put k (p.all k)).obj w w2 ∧ Blk w2 C (.cells #[.int .u32 e, .int .u32 s, .int .i64 m] 46)) := ⟨by rw [PS.put_self]; exact D0.out.1.more hb, D0.out.2.keep hb⟩
        rw [← hC]
        clear hb HR D0 hC
        generalize p.all k = n at *
        have HD8 := hd.2
        go_wp2_with fail
        have HC : n.noted = false ∨ n.noted = true ∧ nwB e s n.e n.s = true ∨ n.noted = true ∧ nwB e s n.e n.s = false := by
          cases n.noted
          · exact .inl rfl
          · cases nwB e s n.e n.s
            · exact .inr (.inr ⟨rfl, rfl⟩)
            · exact .inr (.inl ⟨rfl, rfl⟩)
        rcases HC with hno | ⟨hno, hne⟩ | ⟨hno, hne⟩
        case' inl =>
          have HV : ∀ wx, Blk wx b (p.put k n).obj → wx.cell? ⟨b, 4 + k * 7, none⟩ = some (.bool false) := fun wx hx => put_cell (j := 0) hx HK8.out (by omega) (by rw [← hno]; rfl)
          obtain ⟨n3, hn3⟩ : ∃ n3 : NW, n3 = { n with first := now } := ⟨_, rfl⟩
          have HXC : Kp (x = { n3 with noted := true, e := e, s := s, m := m, waits := true, urgent := n3.urgent || u }) := ⟨by rw [HXE.out, hn3]; unfold NW.note; rw [if_pos (.inl hno)]⟩
          have HN3 := Kp.mk hn3
          clear hn3
          clear hno
          refine wp_region_flow (fun w' => Turn b (p.put k n).obj w w' ∧ Blk w' C (.cells #[.int .u32 e, .int .u32 s, .int .i64 m] 46)) (by kernel_rfl) (by kernel_rfl) (by kernel_rfl)
            (fun _ _ h hb => ⟨h.1.more hb, h.2.keep hb⟩) (⟨D2.out.1.drew, D2.out.2.draw⟩) ?_
          repeat (first
            | (apply Flow.idle
               · rfl
               try simp only [Act.put, List.setIfInBounds_toArray, List.set_cons_zero, List.set_cons_succ])
            | (apply Flow.value
               · rfl
               · (intro wx hS; have v1 := HV wx hS.1.blk; go_simp; with_reducible rfl)
               try simp only [Act.put, List.setIfInBounds_toArray, List.set_cons_zero, List.set_cons_succ]))
          refine Flow.done ?_
        case' inr.inl =>
          have HV : ∀ wx, Blk wx b (p.put k n).obj → wx.cell? ⟨b, 4 + k * 7, none⟩ = some (.bool true) := fun wx hx => put_cell (j := 0) hx HK8.out (by omega) (by rw [← hno]; rfl)
          obtain ⟨n3, hn3⟩ : ∃ n3 : NW, n3 = { n with first := now } := ⟨_, rfl⟩
          have HXC : Kp (x = { n3 with noted := true, e := e, s := s, m := m, waits := true, urgent := n3.urgent || u }) := ⟨by rw [HXE.out, hn3]; unfold NW.note; rw [if_pos (.inr hne)]⟩
          have HN3 := Kp.mk hn3
          clear hn3
          have HW := fun w1 => newer_any e s m n.e n.s n.m w1
          rw [hne] at HW
          clear hno hne
          refine wp_region_flow (fun w' => Turn b (p.put k n).obj w w' ∧ Blk w' C (.cells #[.int .u32 e, .int .u32 s, .int .i64 m] 46)) (by kernel_rfl) (by kernel_rfl) (by kernel_rfl)
            (fun _ _ h hb => ⟨h.1.more hb, h.2.keep hb⟩) (⟨D2.out.1.drew, D2.out.2.draw⟩) ?_
          repeat (first
            | (apply Flow.idle
               · rfl
               try simp only [Act.put, List.setIfInBounds_toArray, List.set_cons_zero, List.set_cons_succ])
            | (apply Flow.value
               · rfl
               · (intro wx hS; exact exec_load_mid (cs := [.int .u32 e, .int .u32 s, .int .i64 m]) rfl rfl (Blk.range (cs := [.int .u32 e, .int .u32 s, .int .i64 m]) (o := 0) hS.2 rfl) Try.underlying46 rfl (by kernel_rfl))
               try simp only [Act.put, List.setIfInBounds_toArray, List.set_cons_zero, List.set_cons_succ])
            | (apply Flow.value
               · rfl
               · (intro wx hS; exact exec_load_mid (cs := [.int .u32 n.e, .int .u32 n.s, .int .i64 n.m]) rfl rfl (key_range hS.1.blk HK8.out) Try.underlying46 rfl (by kernel_rfl))
               try simp only [Act.put, List.setIfInBounds_toArray, List.set_cons_zero, List.set_cons_succ])
            | (apply Flow.call
               · rfl
               · intro wx hS; go_simp; constructor <;> with_reducible rfl
               · intro wx hS; exact HW wx
               try simp only [Act.put, List.setIfInBounds_toArray, List.set_cons_zero, List.set_cons_succ])
            | (apply Flow.value
               · rfl
               · (intro wx hS; have v1 := HV wx hS.1.blk; go_simp; with_reducible rfl)
               try simp only [Act.put, List.setIfInBounds_toArray, List.set_cons_zero, List.set_cons_succ]))
          refine Flow.done ?_
        case' inr.inr =>
          have HV : ∀ wx, Blk wx b (p.put k n).obj → wx.cell? ⟨b, 4 + k * 7, none⟩ = some (.bool true) := fun wx hx => put_cell (j := 0) hx HK8.out (by omega) (by rw [← hno]; rfl)
          have HXC : Kp (x = { n with noted := true, e := e, s := s, m := m, waits := true, urgent := n.urgent || u }) := ⟨by rw [HXE.out]; unfold NW.note; rw [if_neg (by rw [hno, hne]; simp)]⟩
          have HW := fun w1 => newer_any e s m n.e n.s n.m w1
          rw [hne] at HW
          clear hno hne
          refine wp_region_flow (fun w' => Turn b (p.put k n).obj w w' ∧ Blk w' C (.cells #[.int .u32 e, .int .u32 s, .int .i64 m] 46)) (by kernel_rfl) (by kernel_rfl) (by kernel_rfl)
            (fun _ _ h hb => ⟨h.1.more hb, h.2.keep hb⟩) (⟨D2.out.1.drew, D2.out.2.draw⟩) ?_
          repeat (first
            | (apply Flow.idle
               · rfl
               try simp only [Act.put, List.setIfInBounds_toArray, List.set_cons_zero, List.set_cons_succ])
            | (apply Flow.value
               · rfl
               · (intro wx hS; exact exec_load_mid (cs := [.int .u32 e, .int .u32 s, .int .i64 m]) rfl rfl (Blk.range (cs := [.int .u32 e, .int .u32 s, .int .i64 m]) (o := 0) hS.2 rfl) Try.underlying46 rfl (by kernel_rfl))
               try simp only [Act.put, List.setIfInBounds_toArray, List.set_cons_zero, List.set_cons_succ])
            | (apply Flow.value
               · rfl
               · (intro wx hS; exact exec_load_mid (cs := [.int .u32 n.e, .int .u32 n.s, .int .i64 n.m]) rfl rfl (key_range hS.1.blk HK8.out) Try.underlying46 rfl (by kernel_rfl))
               try simp only [Act.put, List.setIfInBounds_toArray, List.set_cons_zero, List.set_cons_succ])
            | (apply Flow.call
               · rfl
               · intro wx hS; go_simp; constructor <;> with_reducible rfl
               · intro wx hS; exact HW wx
               try simp only [Act.put, List.setIfInBounds_toArray, List.set_cons_zero, List.set_cons_succ])
            | (apply Flow.value
               · rfl
               · (intro wx hS; have v1 := HV wx hS.1.blk; go_simp; with_reducible rfl)
               try simp only [Act.put, List.setIfInBounds_toArray, List.set_cons_zero, List.set_cons_succ]))
          refine Flow.done ?_
        case' inl => skip
        case' inr.inl => clear HW
        case' inr.inr => clear HW
        case' inl | inr.inl =>
          intro w3 hS
          have D3' := Kp.mk hS
          have p4 : w3.cell? ⟨b, 4 + k * 7 + 4, none⟩ = some (.int .i64 n.first) := put_cell hS.1.blk HK8.out (j := 4) (by omega) rfl
          have g4 := hS.1.blk.frozen (4 + k * 7 + 4)
          clear hS HV HXE D2
          go_wp2_with fail
          have D3 : Kp (Turn b (p.put k n3).obj w (w3.setCell ⟨b, 4 + k * 7 + 4, none⟩ (.int .i64 now)) ∧ Blk (w3.setCell ⟨b, 4 + k * 7 + 4, none⟩ (.int .i64 now)) C (.cells #[.int .u32 e, .int .u32 s, .int .i64 m] 46)) := ⟨by rw [HN3.out]; exact D3'.out.1.nw (j := 4) HK8.out (by omega) rfl, Blk.setOther D3'.out.2 (p := ⟨b, 4 + k * 7 + 4, none⟩) HBC.out _⟩
          clear D3' p4 g4
          revert D3 HXC
          generalize w3.setCell ⟨b, 4 + k * 7 + 4, none⟩ (.int .i64 now) = w4
          intro HXC D3
        case' inr.inr =>
          intro w4 hS
          have D3 := Kp.mk hS
          clear hS HV HXE D2
          revert D3 HXC
          generalize n = n3
          intro HXC D3
          go_wp2_with fail
        all_goals
          refine wp_region_held_drew (S := fun w' => Blk w' C (.cells #[.int .u32 e, .int .u32 s, .int .i64 m] 46)) (by kernel_rfl) (D3.out.2.draw) (fun hH => ?_)
          refine wpAnyH_take (i := 0) (oi := { dst := some 52, op := Go.Op.move (Go.Operand.tmp 11), type := 74, pos := "settle.go:61", after := #[], guard := none }) (v := .pointer (some ⟨b, 4 + k * 7, none⟩)) rfl (by kernel_rfl) (by kernel_rfl) (by kernel_rfl) (fun _ _ _ h => h) (Or.inl ⟨by rfl, fun w hS => by go_simp⟩) hH ?_
          simp only [Act.put, List.setIfInBounds_toArray, List.set_cons_zero, List.set_cons_succ]
          refine wpAnyH_take (i := 1) (oi := { dst := some 53, op := Go.Op.move (Go.Operand.tmp 11), type := 74, pos := "settle.go:61", after := #[{ on := 6, ground := Go.Ground.gcOnly Go.Departure.lateStores }], guard := none }) (v := .pointer (some ⟨b, 4 + k * 7, none⟩)) rfl (by kernel_rfl) (by kernel_rfl) (by kernel_rfl) (fun _ _ _ h => h) (Or.inl ⟨by rfl, fun w hS => by go_simp⟩) hH ?_
          simp only [Act.put, List.setIfInBounds_toArray, List.set_cons_zero, List.set_cons_succ]
          refine wpAnyH_take (i := 2) (oi := { dst := some 54, op := Go.Op.move (Go.Operand.tmp 11), type := 74, pos := "settle.go:61", after := #[{ on := 9, ground := Go.Ground.gcOnly Go.Departure.lateStores }], guard := none }) (v := .pointer (some ⟨b, 4 + k * 7, none⟩)) rfl (by kernel_rfl) (by kernel_rfl) (by kernel_rfl) (fun _ _ _ h => h) (Or.inl ⟨by rfl, fun w hS => by go_simp⟩) hH ?_
          simp only [Act.put, List.setIfInBounds_toArray, List.set_cons_zero, List.set_cons_succ]
          refine wpAnyH_take (i := 3) (oi := { dst := some 55, op := Go.Op.load 46 (Go.Operand.tmp 8), type := 46, pos := "settle.go:61", after := #[{ on := 6, ground := Go.Ground.gcOnly Go.Departure.lateStores }], guard := none }) (v := keyV e s m) rfl (by kernel_rfl) (by kernel_rfl) (by kernel_rfl) (fun _ _ _ h => h) (Or.inl ⟨by rfl, fun w hS => exec_load_mid (cs := [.int .u32 e, .int .u32 s, .int .i64 m]) rfl rfl (Blk.range (cs := [.int .u32 e, .int .u32 s, .int .i64 m]) (o := 0) hS rfl) Try.underlying46 rfl (by kernel_rfl)⟩) hH ?_
          simp only [Act.put, List.setIfInBounds_toArray, List.set_cons_zero, List.set_cons_succ]
          refine wpAnyH_take (i := 4) (oi := { dst := some 56, op := Go.Op.nilCheck (Go.Operand.tmp 52), type := 0, pos := "settle.go:61", after := #[{ on := 0, ground := Go.Ground.data }, { on := 0, ground := Go.Ground.phase }, { on := 1, ground := Go.Ground.textOnly Go.Departure.lateStores }, { on := 2, ground := Go.Ground.textOnly Go.Departure.lateStores }, { on := 3, ground := Go.Ground.textOnly Go.Departure.lateStores }], guard := none }) (v := .pointer (some ⟨b, 4 + k * 7, none⟩)) rfl (by kernel_rfl) (by kernel_rfl) (by kernel_rfl) (fun _ _ _ h => h) (Or.inl ⟨by rfl, fun w hS => by go_simp⟩) hH ?_
          simp only [Act.put, List.setIfInBounds_toArray, List.set_cons_zero, List.set_cons_succ]
          refine wpAnyH_take (i := 5) (oi := { dst := some 57, op := Go.Op.fieldAddr 69 (Go.Operand.tmp 56) 0, type := 0, pos := "settle.go:61", after := #[{ on := 4, ground := Go.Ground.data }, { on := 0, ground := Go.Ground.phase }, { on := 1, ground := Go.Ground.textOnly Go.Departure.lateStores }, { on := 2, ground := Go.Ground.textOnly Go.Departure.lateStores }, { on := 3, ground := Go.Ground.textOnly Go.Departure.lateStores }], guard := none }) (v := .pointer (some ⟨b, 4 + k * 7, none⟩)) rfl (by kernel_rfl) (by kernel_rfl) (by kernel_rfl) (fun _ _ _ h => h) (Or.inl ⟨by rfl, fun w hS => by go_simp⟩) hH ?_
          simp only [Act.put, List.setIfInBounds_toArray, List.set_cons_zero, List.set_cons_succ]
          refine wpAnyH_ready (rs := [6]) (by kernel_rfl) (by simp) ?_
          refine AllReadyH.cons (o := { dst := none, op := Go.Op.store 4 (Go.Operand.tmp 57) (Go.Operand.const (Go.Value.bool true)), type := 0, pos := "settle.go:61", after := #[{ on := 5, ground := Go.Ground.data }, { on := 0, ground := Go.Ground.phase }, { on := 1, ground := Go.Ground.textOnly Go.Departure.lateStores }, { on := 2, ground := Go.Ground.textOnly Go.Departure.lateStores }, { on := 3, ground := Go.Ground.textOnly Go.Departure.lateStores }], guard := none }) rfl (fun K hK => ?_) AllReadyH.nil
          have p0 : w4.cell? ⟨b, 4 + k * 7, none⟩ = some (.bool n3.noted) := put_cell D3.out.1.blk HK8.out (j := 0) (by omega) rfl
          have g0 : w4.frozen? ⟨b, 4 + k * 7, none⟩ = false := D3.out.1.blk.frozen (4 + k * 7)
          go_simp
          have D4 : Kp (Turn b (p.put k { n3 with noted := true }).obj w (w4.drew.setCell ⟨b, 4 + k * 7, none⟩ (.bool true))) := ⟨D3.out.1.drew.nw (j := 0) HK8.out (by omega) rfl⟩
          have C4 : Kp (Blk (w4.drew.setCell ⟨b, 4 + k * 7, none⟩ (.bool true)) C (.cells #[.int .u32 e, .int .u32 s, .int .i64 m] 46)) := ⟨Blk.setOther D3.out.2.draw (p := ⟨b, 4 + k * 7, none⟩) HBC.out _⟩
          refine hK.out _ _ (C4.out) (fun hHn => ?_)
          clear hK K hH
          have hH := hHn
          clear hHn
          try simp only [Act.put, List.setIfInBounds_toArray, List.set_cons_zero, List.set_cons_succ]
          refine wpAnyH_take (i := 7) (oi := { dst := some 58, op := Go.Op.nilCheck (Go.Operand.tmp 53), type := 0, pos := "settle.go:61", after := #[{ on := 1, ground := Go.Ground.data }, { on := 0, ground := Go.Ground.phase }, { on := 1, ground := Go.Ground.phase }, { on := 2, ground := Go.Ground.textOnly Go.Departure.lateStores }, { on := 3, ground := Go.Ground.phase }, { on := 4, ground := Go.Ground.phase }, { on := 5, ground := Go.Ground.phase }, { on := 6, ground := Go.Ground.phase }], guard := none }) (v := .pointer (some ⟨b, 4 + k * 7, none⟩)) rfl (by kernel_rfl) (by kernel_rfl) (by kernel_rfl) (fun _ _ _ h => h) (Or.inl ⟨by rfl, fun w hS => by go_simp⟩) hH ?_
          simp only [Act.put, List.setIfInBounds_toArray, List.set_cons_zero, List.set_cons_succ]
          refine wpAnyH_take (i := 8) (oi := { dst := some 59, op := Go.Op.fieldAddr 69 (Go.Operand.tmp 58) 1, type := 0, pos := "settle.go:61", after := #[{ on := 7, ground := Go.Ground.data }, { on := 0, ground := Go.Ground.phase }, { on := 1, ground := Go.Ground.phase }, { on := 2, ground := Go.Ground.textOnly Go.Departure.lateStores }, { on := 3, ground := Go.Ground.phase }, { on := 4, ground := Go.Ground.phase }, { on := 5, ground := Go.Ground.phase }, { on := 6, ground := Go.Ground.phase }], guard := none }) (v := .pointer (some ⟨b, 4 + k * 7 + 1, none⟩)) rfl (by kernel_rfl) (by kernel_rfl) (by kernel_rfl) (fun _ _ _ h => h) (Or.inl ⟨by rfl, fun w hS => by go_simp⟩) hH ?_
          simp only [Act.put, List.setIfInBounds_toArray, List.set_cons_zero, List.set_cons_succ]
          refine wpAnyH_ready (rs := [9]) (by kernel_rfl) (by simp) ?_
          refine AllReadyH.cons (o := { dst := none, op := Go.Op.store 46 (Go.Operand.tmp 59) (Go.Operand.tmp 55), type := 0, pos := "settle.go:61", after := #[{ on := 8, ground := Go.Ground.data }, { on := 3, ground := Go.Ground.data }, { on := 6, ground := Go.Ground.chain }, { on := 0, ground := Go.Ground.phase }, { on := 1, ground := Go.Ground.phase }, { on := 2, ground := Go.Ground.textOnly Go.Departure.lateStores }, { on := 3, ground := Go.Ground.phase }, { on := 4, ground := Go.Ground.phase }, { on := 5, ground := Go.Ground.phase }, { on := 6, ground := Go.Ground.phase }], guard := none }) rfl (fun K hK => ?_) AllReadyH.nil
          have ht4 : ∀ wz, Blk wz b (p.put k { n3 with noted := true }).obj → wz.there b (4 + k * 7 + 1) 3 := fun _ h4 => Blk.there h4 (by rw [pcs_len]; have := HK8.out; omega)
          refine wp_store_mid 46 (.tmp 59) (.tmp 55) rfl b (4 + k * 7 + 1) #[.int .u32 e, .int .u32 s, .int .i64 m] rfl rfl (ht4 _ D4.out.blk) (by kernel_rfl) (by simp [Value.oneCell']) ?_
          have D5 : Kp (Turn b (p.put k { n3 with noted := true, e := e, s := s, m := m }).obj w ((w4.setCell ⟨b, 4 + k * 7, none⟩ (.bool true)).drew.setCells b (4 + k * 7 + 1) (#[.int .u32 e, .int .u32 s, .int .i64 m] : Array Value).toList)) := ⟨((D4.out.nw (j := 1) (n' := { n3 with noted := true, e := e }) HK8.out (by omega) rfl).nw (j := 2) (n' := { n3 with noted := true, e := e, s := s }) HK8.out (by omega) rfl).nw (j := 3) HK8.out (by omega) rfl⟩
          have C5 : Kp (Blk ((w4.setCell ⟨b, 4 + k * 7, none⟩ (.bool true)).drew.setCells b (4 + k * 7 + 1) (#[.int .u32 e, .int .u32 s, .int .i64 m] : Array Value).toList) C (.cells #[.int .u32 e, .int .u32 s, .int .i64 m] 46)) := ⟨((C4.out.setOther (p := ⟨b, 4 + k * 7 + 1, none⟩) HBC.out _).setOther (p := ⟨b, 4 + k * 7 + 1 + 1, none⟩) HBC.out _).setOther (p := ⟨b, 4 + k * 7 + 1 + 1 + 1, none⟩) HBC.out _⟩
          revert D5 C5
          generalize World.setCells _ _ _ _ = w5
          intro D5 C5
          refine hK.out _ _ (C5.out) (fun hHn => ?_)
          clear hK K hH
          have hH := hHn
          clear hHn
          try simp only [Act.put, List.setIfInBounds_toArray, List.set_cons_zero, List.set_cons_succ]
          refine wpAnyH_take (i := 10) (oi := { dst := some 60, op := Go.Op.nilCheck (Go.Operand.tmp 54), type := 0, pos := "settle.go:61", after := #[{ on := 2, ground := Go.Ground.data }, { on := 0, ground := Go.Ground.phase }, { on := 1, ground := Go.Ground.phase }, { on := 2, ground := Go.Ground.phase }, { on := 3, ground := Go.Ground.phase }, { on := 4, ground := Go.Ground.phase }, { on := 5, ground := Go.Ground.phase }, { on := 6, ground := Go.Ground.phase }, { on := 7, ground := Go.Ground.phase }, { on := 8, ground := Go.Ground.phase }, { on := 9, ground := Go.Ground.phase }], guard := none }) (v := .pointer (some ⟨b, 4 + k * 7, none⟩)) rfl (by kernel_rfl) (by kernel_rfl) (by kernel_rfl) (fun _ _ _ h => h) (Or.inl ⟨by rfl, fun w hS => by go_simp⟩) hH ?_
          simp only [Act.put, List.setIfInBounds_toArray, List.set_cons_zero, List.set_cons_succ]
          refine wpAnyH_take (i := 11) (oi := { dst := some 61, op := Go.Op.fieldAddr 69 (Go.Operand.tmp 60) 3, type := 0, pos := "settle.go:61", after := #[{ on := 10, ground := Go.Ground.data }, { on := 0, ground := Go.Ground.phase }, { on := 1, ground := Go.Ground.phase }, { on := 2, ground := Go.Ground.phase }, { on := 3, ground := Go.Ground.phase }, { on := 4, ground := Go.Ground.phase }, { on := 5, ground := Go.Ground.phase }, { on := 6, ground := Go.Ground.phase }, { on := 7, ground := Go.Ground.phase }, { on := 8, ground := Go.Ground.phase }, { on := 9, ground := Go.Ground.phase }], guard := none }) (v := .pointer (some ⟨b, 4 + k * 7 + 5, none⟩)) rfl (by kernel_rfl) (by kernel_rfl) (by kernel_rfl) (fun _ _ _ h => h) (Or.inl ⟨by rfl, fun w hS => by go_simp⟩) hH ?_
          simp only [Act.put, List.setIfInBounds_toArray, List.set_cons_zero, List.set_cons_succ]
          refine wpAnyH_ready (rs := [12]) (by kernel_rfl) (by simp) ?_
          refine AllReadyH.cons (o := { dst := none, op := Go.Op.store 4 (Go.Operand.tmp 61) (Go.Operand.const (Go.Value.bool true)), type := 0, pos := "settle.go:61", after := #[{ on := 11, ground := Go.Ground.data }, { on := 9, ground := Go.Ground.chain }, { on := 0, ground := Go.Ground.phase }, { on := 1, ground := Go.Ground.phase }, { on := 2, ground := Go.Ground.phase }, { on := 3, ground := Go.Ground.phase }, { on := 4, ground := Go.Ground.phase }, { on := 5, ground := Go.Ground.phase }, { on := 6, ground := Go.Ground.phase }, { on := 7, ground := Go.Ground.phase }, { on := 8, ground := Go.Ground.phase }, { on := 9, ground := Go.Ground.phase }], guard := none }) rfl (fun K hK => ?_) AllReadyH.nil
          have p5 : w5.cell? ⟨b, 4 + k * 7 + 5, none⟩ = some (.bool n3.waits) := put_cell D5.out.blk HK8.out (j := 5) (by omega) rfl
          have g5 := D5.out.blk.frozen (4 + k * 7 + 5)
          go_simp
          have D6 : Kp (Turn b (p.put k { n3 with noted := true, e := e, s := s, m := m, waits := true }).obj w (w5.setCell ⟨b, 4 + k * 7 + 5, none⟩ (.bool true))) := ⟨D5.out.nw (j := 5) HK8.out (by omega) rfl⟩
          have C6 : Kp (Blk (w5.setCell ⟨b, 4 + k * 7 + 5, none⟩ (.bool true)) C (.cells #[.int .u32 e, .int .u32 s, .int .i64 m] 46)) := ⟨Blk.setOther C5.out (p := ⟨b, 4 + k * 7 + 5, none⟩) HBC.out _⟩
          refine hK.out _ _ (C6.out) (fun hHn => ?_)
          clear hK K hH
          have hH := hHn
          clear hHn
          try simp only [Act.put, List.setIfInBounds_toArray, List.set_cons_zero, List.set_cons_succ]
          clear hH
          refine wpAnyH_done (by kernel_rfl) ?_ _
          have D7 : Kp (Turn b (p.put k { n3 with noted := true, e := e, s := s, m := m, waits := true }).obj w (w5.setCell ⟨b, 4 + k * 7 + 5, none⟩ (.bool true))) := D6
          clear D3 D4 D5 D6 C4 C5 C6 p0 g0 p5 g5 ht4
          revert D7
          generalize World.setCell _ _ _ = w7
          intro D7
          have p6 : w7.cell? ⟨b, 4 + k * 7 + 6, none⟩ = some (.bool n3.urgent) := put_cell D7.out.blk HK8.out (j := 6) (by omega) rfl
          have g6 := D7.out.blk.frozen (4 + k * 7 + 6)
          have HX7 : Kp (∀ v, v = (n3.urgent || u) → Turn b (p.put k x).obj w (w7.setCell ⟨b, 4 + k * 7 + 6, none⟩ (.bool v))) := ⟨fun v hv => by rw [HXC.out, hv]; exact D7.out.nw (j := 6) HK8.out (by omega) rfl⟩
          cases hu : n3.urgent <;> (
            have HU := Kp.mk hu
            rw [hu] at p6
            clear hu
            go_wp2_with fail
            go_ret
            exact ⟨rfl, HX7.out _ (by rw [HU.out]; rfl)⟩)
  · have HN : Kp (noteB now d e s m = false) := ⟨by simp [noteB, hd]⟩
    have hd' : d < 0 ∨ 8 ≤ d := by omega
    clear hd
    rcases hd' with hd' | hd'
    all_goals
      go_enter Try.func12, Try.ntmps12
      go_wp2_with fail
      go_ret
      exact note_no HN.out rfl D0.out.1
end Go.Proofs.Ytfnjfoconklhiaa
