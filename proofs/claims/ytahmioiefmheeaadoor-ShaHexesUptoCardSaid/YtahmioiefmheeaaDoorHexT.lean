/-
  The document's Hex.
-/
import Derived.Test.YtahmioiefmheeaaDoorDigit
import Derived.Test.YtahmioiefmheeaaDoorPad
import Derived.Deep.AppendLies
import Derived.Deep.RegionHeld3
import Derived.Deep.MidRow
import Derived.Laws.CopyOwn
import Derived.ArgAppend
import Derived.OwnWalk
namespace Go.Proofs.YtahmioiefmheeaaDoor
open Go.RowKit

theorem row_new2 (w : World) (l : List Int) (t : TypeId) : ∀ j u, (bv l)[j]? = some u → (w.alloc (.cells (bv l).toArray t)).cell? ((⟨w.heap.size, 0, none⟩ : Addr).add j) = some u := by
  intro j u hu
  have e : (⟨w.heap.size, 0, none⟩ : Addr).add j = ⟨w.heap.size, j, none⟩ := by unfold Addr.add; split <;> simp_all
  rw [e, (Blk.new w (.cells (bv l).toArray t)).cell j, List.getElem?_toArray]
  exact hu
/-- Bytes as digits, as numbers. -/
def hexI (l : List Int) : List Int := l.flatMap fun b => [((hd (b / 16)).toNat : Int), ((hd (b % 16)).toNat : Int)]
theorem hexI_len (l : List Int) : (hexI l).length = 2 * l.length := by
  induction l with
  | nil => rfl
  | cons b l ih =>
    have : hexI (b :: l) = [((hd (b / 16)).toNat : Int), ((hd (b % 16)).toNat : Int)] ++ hexI l := rfl
    rw [this, List.length_append, ih]
    simp
    omega
theorem hexI_snoc (l : List Int) (b : Int) : hexI (l ++ [b]) = hexI l ++ [((hd (b / 16)).toNat : Int), ((hd (b % 16)).toNat : Int)] := by simp [hexI]
theorem hexI_bytes (l : List Int) : Bytes (hexI l) := by
  intro x hx
  obtain ⟨b, -, hb⟩ := List.mem_flatMap.1 hx
  simp only [List.mem_cons, List.not_mem_nil, or_false] at hb
  rcases hb with rfl | rfl
  · have := (hd (b / 16)).toNat_lt; omega
  · have := (hd (b % 16)).toNat_lt; omega
theorem HoldsB.ltB {w : World} {M : Nat} {b off n cap i : Nat} {l : List Int} (h : HoldsB w M (.slice (some ⟨b, off, none⟩) n cap) l) (hi : i < l.length) : b < w.heap.size := by
  obtain ⟨a', cap', h1, h2, h3, h4, h5, h6, h7⟩ := h
  simp only [Value.slice.injEq] at h1
  obtain ⟨rfl, -, -⟩ := h1
  exact (h5 _ rfl (by omega)).2.2
set_option maxRecDepth 100000 in
set_option maxHeartbeats 4000000 in
theorem rhex_any (M : Nat) (v : Value) (l : List Int) (w : World) (h : HoldsB w M v l) (hl : 2 * l.length ≤ 100000000000000) :
    Calls Tryd.prog 22 #[v] w fun r w' => r = .returned (.string (strOfNums (hexI l))) ∧ Below w.heap.size w w' := by
  obtain ⟨a, len, cap, rfl, hn⟩ := h.slice
  have HR := Kp.mk h
  have HN := Kp.mk hn
  have hb : len ≤ 50000000000000 := by omega
  obtain ⟨i0, hi, hz0, hz1, hz2⟩ := info_parts info5
  obtain ⟨A, hA⟩ : ∃ A, A = w.heap.size := ⟨_, rfl⟩
  have HA := Kp.mk hA
  clear h hn hl
  go_enter Tryd.func22, Tryd.ntmps22
  go_wp2_with fail
  go_loopw [3, 4] (fun v3 c4 wr => ∃ i : Nat, i ≤ len ∧ c4 = .int .i64 i ∧ Kp (wr.ownsRow A 5 1 v3 (2 * i) (bv (hexI (l.take i)))) ∧ Kp (Below A w wr ∧ A ≤ wr.heap.size)) (fun _ c _ => len - (intOf c).toNat)
  case atStart => exact ⟨0, by omega, rfl, ⟨World.ownsRow_nil _ _ _ _⟩, ⟨by rw [hA]; exact Below.refl _ _, by rw [hA]; exact Nat.le_refl _⟩⟩
  case round =>
    obtain ⟨i, hi', rfl, G1, G3⟩ := hrel
    clear hA
    by_cases hlt : i < len
    · obtain ⟨b, off, rfl, -, c0⟩ := HR.out.cellAt (i := i) (by have := HN.out; omega)
      have hx := HR.out.bytes.at (i := i) (by have := HN.out; omega)
      have HT : Kp (hexI (l.take (i + 1)) = hexI (l.take i) ++ [((hd (l.getD i 0 / 16)).toNat : Int), ((hd (l.getD i 0 % 16)).toNat : Int)]) := ⟨by
        have hl : i < l.length := by have := HN.out; omega
        rw [← hexI_snoc, List.take_succ_eq_append_getElem hl, List.getD_eq_getElem?_getD, List.getElem?_eq_getElem hl]; rfl⟩
      have HXX : Kp (bv (hexI (l.take i)) ++ bv [((hd (l.getD i 0 / 16)).toNat : Int), ((hd (l.getD i 0 % 16)).toNat : Int)] = bv (hexI (l.take (i + 1)))) := ⟨by rw [HT.out]; exact (List.map_append ..).symm⟩
      clear HT
      have HBA : Kp (b < A) := ⟨by have := HR.out.ltB (i := i) (by have := HN.out; omega); rw [HA.out]; exact this⟩
      have HC0 := Kp.mk c0
      have HC : Kp (wr.cell? ⟨b, off + i, none⟩ = some (.int .u8 (l.getD i 0))) := ⟨(World.cell?_of_block (w := w) (a := ⟨b, off + i, none⟩) (G3.out.1.block b HBA.out)).trans c0⟩
      clear c0
      generalize l.getD i 0 = x at *
      obtain ⟨hx0, hx1⟩ := hx
      generalize bv (hexI (l.take i)) = xs at G1 HXX
      have hlt' : (i : Int) < (len : Int) := by omega
      have q16 : IntKind.u8.wrap (x.tdiv 16) = x / 16 := by rw [Int.tdiv_eq_ediv_of_nonneg hx0, IntKind.wrap_u8']; omega
      have r16 : x.tmod 16 = x % 16 := Int.tmod_eq_emod_of_nonneg hx0
      go_wp2_with fail
      refine wp_region_held_drew (S := fun w' => Kp (w'.cell? ⟨b, off + i, none⟩ = some (.int .u8 x))) (by kernel_rfl) (⟨HC.out⟩) (fun hH => ?_)
      refine wpAnyH_take (i := 0) (oi := { dst := some 11, op := Go.Op.move (Go.Operand.tmp 3), type := 22, pos := "ref.go:115", after := #[], guard := none }) (v := u3) rfl (by kernel_rfl) (by kernel_rfl) (by kernel_rfl) (fun _ _ _ h => h) (Or.inl ⟨by rfl, fun w hS => by first | rfl | go_simp⟩) hH ?_
      simp only [Act.put, List.setIfInBounds_toArray, List.set_cons_zero, List.set_cons_succ]
      refine wpAnyH_take (i := 1) (oi := { dst := some 12, op := Go.Op.move (Go.Operand.tmp 0), type := 22, pos := "ref.go:115", after := #[], guard := none }) (v := .slice (some ⟨b, off, none⟩) len cap) rfl (by kernel_rfl) (by kernel_rfl) (by kernel_rfl) (fun _ _ _ h => h) (Or.inl ⟨by rfl, fun w hS => by first | rfl | go_simp⟩) hH ?_
      simp only [Act.put, List.setIfInBounds_toArray, List.set_cons_zero, List.set_cons_succ]
      refine wpAnyH_take (i := 2) (oi := { dst := some 13, op := Go.Op.move (Go.Operand.tmp 4), type := 3, pos := "ref.go:115", after := #[], guard := none }) (v := .int .i64 i) rfl (by kernel_rfl) (by kernel_rfl) (by kernel_rfl) (fun _ _ _ h => h) (Or.inl ⟨by rfl, fun w hS => by first | rfl | go_simp⟩) hH ?_
      simp only [Act.put, List.setIfInBounds_toArray, List.set_cons_zero, List.set_cons_succ]
      refine wpAnyH_take (i := 3) (oi := { dst := some 14, op := Go.Op.indexAddr 22 (Go.Operand.tmp 12) (Go.Operand.tmp 13), type := 0, pos := "ref.go:115", after := #[{ on := 1, ground := Go.Ground.data }, { on := 2, ground := Go.Ground.data }], guard := none }) (v := .pointer (some ⟨b, off + i, none⟩)) rfl (by kernel_rfl) (by kernel_rfl) (by kernel_rfl) (fun _ _ _ h => h) (Or.inl ⟨by rfl, fun w hS => by go_simp⟩) hH ?_
      simp only [Act.put, List.setIfInBounds_toArray, List.set_cons_zero, List.set_cons_succ]
      refine wpAnyH_take (i := 4) (oi := { dst := some 15, op := Go.Op.load 5 (Go.Operand.tmp 14), type := 5, pos := "ref.go:115", after := #[{ on := 3, ground := Go.Ground.data }], guard := none }) (v := .int .u8 x) rfl (by kernel_rfl) (by kernel_rfl) (by kernel_rfl) (fun _ _ _ h => h) (Or.inl ⟨by rfl, fun w hS => by have hc := hS.out; go_simp⟩) hH ?_
      simp only [Act.put, List.setIfInBounds_toArray, List.set_cons_zero, List.set_cons_succ]
      refine wpAnyH_take (i := 5) (oi := { dst := some 16, op := Go.Op.binOp Go.BinOp.quo 5 (Go.Operand.tmp 15) (Go.Operand.const (Go.Value.int Go.IntKind.u8 16)) 5, type := 5, pos := "ref.go:115", after := #[{ on := 4, ground := Go.Ground.data }], guard := none }) (v := .int .u8 (x / 16)) rfl (by kernel_rfl) (by kernel_rfl) (by kernel_rfl) (fun _ _ _ h => h) (Or.inl ⟨by rfl, fun w hS => by go_simp⟩) hH ?_
      simp only [Act.put, List.setIfInBounds_toArray, List.set_cons_zero, List.set_cons_succ]
      refine wpAnyH_take (i := 7) (oi := { dst := some 18, op := Go.Op.move (Go.Operand.tmp 0), type := 22, pos := "ref.go:115", after := #[], guard := none }) (v := .slice (some ⟨b, off, none⟩) len cap) rfl (by kernel_rfl) (by kernel_rfl) (by kernel_rfl) (fun _ _ _ h => h) (Or.inl ⟨by rfl, fun w hS => by first | rfl | go_simp⟩) hH ?_
      simp only [Act.put, List.setIfInBounds_toArray, List.set_cons_zero, List.set_cons_succ]
      refine wpAnyH_take (i := 8) (oi := { dst := some 19, op := Go.Op.move (Go.Operand.tmp 4), type := 3, pos := "ref.go:115", after := #[], guard := none }) (v := .int .i64 i) rfl (by kernel_rfl) (by kernel_rfl) (by kernel_rfl) (fun _ _ _ h => h) (Or.inl ⟨by rfl, fun w hS => by first | rfl | go_simp⟩) hH ?_
      simp only [Act.put, List.setIfInBounds_toArray, List.set_cons_zero, List.set_cons_succ]
      refine wpAnyH_take (i := 9) (oi := { dst := some 20, op := Go.Op.indexAddr 22 (Go.Operand.tmp 18) (Go.Operand.tmp 19), type := 0, pos := "ref.go:115", after := #[{ on := 7, ground := Go.Ground.data }, { on := 8, ground := Go.Ground.data }], guard := none }) (v := .pointer (some ⟨b, off + i, none⟩)) rfl (by kernel_rfl) (by kernel_rfl) (by kernel_rfl) (fun _ _ _ h => h) (Or.inl ⟨by rfl, fun w hS => by go_simp⟩) hH ?_
      simp only [Act.put, List.setIfInBounds_toArray, List.set_cons_zero, List.set_cons_succ]
      refine wpAnyH_take (i := 10) (oi := { dst := some 21, op := Go.Op.load 5 (Go.Operand.tmp 20), type := 5, pos := "ref.go:115", after := #[{ on := 9, ground := Go.Ground.data }], guard := none }) (v := .int .u8 x) rfl (by kernel_rfl) (by kernel_rfl) (by kernel_rfl) (fun _ _ _ h => h) (Or.inl ⟨by rfl, fun w hS => by have hc := hS.out; go_simp⟩) hH ?_
      simp only [Act.put, List.setIfInBounds_toArray, List.set_cons_zero, List.set_cons_succ]
      refine wpAnyH_take (i := 11) (oi := { dst := some 22, op := Go.Op.binOp Go.BinOp.rem 5 (Go.Operand.tmp 21) (Go.Operand.const (Go.Value.int Go.IntKind.u8 16)) 5, type := 5, pos := "ref.go:115", after := #[{ on := 10, ground := Go.Ground.data }], guard := none }) (v := .int .u8 (x % 16)) rfl (by kernel_rfl) (by kernel_rfl) (by kernel_rfl) (fun _ _ _ h => h) (Or.inl ⟨by rfl, fun w hS => by go_simp⟩) hH ?_
      simp only [Act.put, List.setIfInBounds_toArray, List.set_cons_zero, List.set_cons_succ]
      refine wpAnyH_ready (rs := [6]) (by kernel_rfl) (by simp) ?_
      refine AllReadyH.cons (o := { dst := some 17, op := Go.Op.call { callee := Go.Callee.value (Go.Operand.func 77), args := #[Go.Operand.tmp 16], argTypes := #[5] }, type := 5, pos := "ref.go:115", after := #[{ on := 5, ground := Go.Ground.data }], guard := none }) rfl (fun K hK => ?_) AllReadyH.nil
      go_simp
      refine (digit_any (x / 16) (by omega) (by omega) wr.drew).mono ?_
      rintro r w1 ⟨rfl, rfl⟩
      refine hK.out _ _ (hH) (fun hHn => ?_)
      clear hK K hH
      have hH := hHn
      clear hHn
      try simp only [Act.put, List.setIfInBounds_toArray, List.set_cons_zero, List.set_cons_succ]
      refine wpAnyH_ready (rs := [12]) (by kernel_rfl) (by simp) ?_
      refine AllReadyH.cons (o := { dst := some 23, op := Go.Op.call { callee := Go.Callee.value (Go.Operand.func 77), args := #[Go.Operand.tmp 22], argTypes := #[5] }, type := 5, pos := "ref.go:115", after := #[{ on := 11, ground := Go.Ground.data }, { on := 6, ground := Go.Ground.chain }], guard := none }) rfl (fun K hK => ?_) AllReadyH.nil
      go_simp
      refine (digit_any (x % 16) (by omega) (by omega) wr.drew).mono ?_
      rintro r w1 ⟨rfl, rfl⟩
      refine hK.out _ _ (hH) (fun hHn => ?_)
      clear hK K hH
      have hH := hHn
      clear hHn
      try simp only [Act.put, List.setIfInBounds_toArray, List.set_cons_zero, List.set_cons_succ]
      refine wpAnyH_ready (rs := [13]) (by kernel_rfl) (by simp) ?_
      refine AllReadyH.cons (o := { dst := some 24, op := Go.Op.buildSlice 22 2 #[(0, Go.Operand.tmp 17), (1, Go.Operand.tmp 23)], type := 22, pos := "ref.go:115", after := #[{ on := 6, ground := Go.Ground.data }, { on := 12, ground := Go.Ground.data }], guard := none }) rfl (fun K hK => ?_) AllReadyH.nil
      go_simp
      refine hK.out _ _ (⟨((more (Below.refl wr.drew.heap.size wr.drew) _).cell (p := ⟨b, off + i, none⟩) (by have := HBA.out; have := G3.out.2; show b < wr.heap.size; omega)).trans HC.out⟩) (fun hHn => ?_)
      clear hK K hH
      have hH := hHn
      clear hHn
      try simp only [Act.put, List.setIfInBounds_toArray, List.set_cons_zero, List.set_cons_succ]
      refine wpAnyH_ready (rs := [14]) (by kernel_rfl) (by simp) ?_
      refine AllReadyH.cons (o := { dst := some 25, op := Go.Op.call { callee := Go.Callee.builtin Go.Builtin.append, args := #[Go.Operand.tmp 11, Go.Operand.tmp 24], argTypes := #[22, 22] }, type := 22, pos := "ref.go:115", after := #[{ on := 0, ground := Go.Ground.data }, { on := 13, ground := Go.Ground.data }, { on := 12, ground := Go.Ground.chain }], guard := none }) rfl (fun K hK => ?_) AllReadyH.nil
      refine step_append_lies _ rfl (.tmp 11) (.tmp 24) 22 rfl A 5 i0 (.int .u8 0) 1 1 Tryd.underlying22 hi hz0 hz1 hz2 rfl (by decide) u3 (2 * i) xs rfl (G1.out.alloc _) ⟨wr.heap.size, 0, none⟩ 2 2 (bv [(hd (x / 16)).toNat, (hd (x % 16)).toNat]) rfl ?d9 (row_new2 _ _ _) ?d1 (by decide) ?d3 ?d4 ?d5 (wr.heap.size + 1) ?d6 ?_
      case d9 => rfl
      case d1 => exact bv_one _
      case d3 => unfold maxLen; omega
      case d4 => omega
      case d5 => have := G3.out.2; simp; omega
      case d6 => simp
      intro g cap2 w3 ho hg hv hlt
      have H3 : Kp (Below A w w3) := ⟨below_row_grown ((G3.out.1.drew).alloc G3.out.2 _) (by have := G3.out.2; simp; omega) (G1.out.alloc _) hg⟩
      have H4 : Kp (A ≤ w3.heap.size) := ⟨Nat.le_trans G3.out.2 (Nat.le_trans (by simp) hg.size)⟩
      have H1 := Kp.mk ho
      have H2 : Kp (w3.cell? ⟨b, off + i, none⟩ = some (.int .u8 x)) := ⟨by
        have h9 := H3.out.block b HBA.out
        exact (World.cell?_of_block (w := w) (a := ⟨b, off + i, none⟩) h9).trans HC0.out⟩
      clear ho hg hv hlt
      refine hK.out _ _ (H2) (fun hHn => ?_)
      clear hK K hH
      have hH := hHn
      clear hHn
      try simp only [Act.put, List.setIfInBounds_toArray, List.set_cons_zero, List.set_cons_succ]
      refine wpAnyH_ready (rs := [15]) (by kernel_rfl) (by simp) ?_
      refine AllReadyH.cons (o := { dst := some 3, op := Go.Op.assign (Go.Operand.tmp 25), type := 22, pos := "ref.go:115", after := #[{ on := 14, ground := Go.Ground.data }, { on := 14, ground := Go.Ground.chain }, { on := 0, ground := Go.Ground.phase }, { on := 1, ground := Go.Ground.phase }, { on := 2, ground := Go.Ground.phase }, { on := 3, ground := Go.Ground.phase }, { on := 4, ground := Go.Ground.phase }, { on := 5, ground := Go.Ground.phase }, { on := 6, ground := Go.Ground.phase }, { on := 7, ground := Go.Ground.phase }, { on := 8, ground := Go.Ground.phase }, { on := 9, ground := Go.Ground.phase }, { on := 10, ground := Go.Ground.phase }, { on := 11, ground := Go.Ground.phase }, { on := 12, ground := Go.Ground.phase }, { on := 13, ground := Go.Ground.phase }, { on := 14, ground := Go.Ground.phase }], guard := none }) rfl (fun K hK => ?_) AllReadyH.nil
      go_simp
      refine hK.out _ _ (H2) (fun hHn => ?_)
      clear hK K hH
      have hH := hHn
      clear hHn
      try simp only [Act.put, List.setIfInBounds_toArray, List.set_cons_zero, List.set_cons_succ]
      clear hH
      refine wpAnyH_done (by kernel_rfl) ?_ _
      go_wp2_with fail
      exact ⟨⟨i + 1, by omega, by go_num, ⟨by have := H1.out; rw [HXX.out] at this; exact this⟩, ⟨H3.out, H4.out⟩⟩, by simp [intOf]; omega⟩
    · have hi'' : i = len := by omega
      subst hi''
      have hcl : ¬ (i : Int) < (i : Int) := by omega
      have hlen : Kp ((hexI l).length = 2 * i) := ⟨by rw [hexI_len]; have := HN.out; omega⟩
      have HB : Kp (HoldsB wr wr.heap.size u3 (hexI l)) := ⟨HoldsB.ofRow (hexI_bytes l) (by have h := G1.out; rw [List.take_of_length_le (by have := HN.out; omega), ← hlen.out] at h; exact h)⟩
      have ht := HB.out.text
      go_wp2_with fail
      go_ret
      exact ⟨rfl, by rw [← HA.out]; exact G3.out.1⟩
end Go.Proofs.YtahmioiefmheeaaDoor
