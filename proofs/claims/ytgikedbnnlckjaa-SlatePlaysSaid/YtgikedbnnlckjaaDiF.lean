/-
  layer 15: seal.
-/
import Derived.Test.YtgikedbnnlckjaaDiE
namespace Go.Proofs.Ytgikedbnnlckjaa
open Go.RowKit

/-- copy into a row that stands. -/
theorem wpList_copy_turn {P : Program} {ops : Array Oper} {rest : List Oper} {o : Oper} {a : Act} {w : World} {Q : Exit → Act → World → Prop} (hgd : o.guard = none) (d s : Operand) (dT sT : TypeId)
    (ho : o.op = .call { callee := .builtin .copy, args := #[d, s], argTypes := #[dT, sT] }) (elem : TypeId) (hu : P.underlying dT = some (.slice elem)) (hsz : (P.info? elem).map (·.size) = some 1)
    (dp sp : Option Addr) (dLen dCap sLen sCap : Nat) (hd : a.eval d = .slice dp dLen dCap) (hs : a.eval s = .slice sp sLen sCap)
    (g off : Nat) (cur : List Value) (t : TypeId) (w0 : World) (hT : Turn g (.cells cur.toArray t) w0 w) (cs : List Value) (hn : cs.length = Nat.min sLen dLen)
    (hpos : 0 < cs.length → dp = some ⟨g, off, none⟩ ∧ ∃ ad, sp = some ad ∧ ∀ j v, cs[j]? = some v → w.cell? (ad.add j) = some v)
    (hfit : off + cs.length ≤ cur.length) (h1 : ∀ v ∈ cs, v.oneCell' = true)
    (h : ∀ w', Hid (Turn g (.cells (splice cur off cs).toArray t) w0 w') → wpList P ops Q rest (a.put o.dst (goInt cs.length)) w') : wpList P ops Q (o :: rest) a w :=
  wpList_step fun K hK => step_copy_turn hgd d s dT sT ho elem hu hsz dp sp dLen dCap sLen sCap hd hs g off cur t w0 hT cs hn hpos hfit h1 (fun w' hw => hK _ _ (h w' hw))
/-- A sector that is sealed. -/
def seal0 (gen : Int) (place : Nat) (flags : Int) (d : List Int) : List Int := splice (((putL (putL z64 0 4 gen) 4 2 place).set 6 flags).set 7 d.length) 8 d
def sealZ (gen : Int) (place : Nat) (flags : Int) (d : List Int) : List Int := putL (putL (seal0 gen place flags d) 58 2 (sumL ((seal0 gen place flags d).take 58))) 60 4 gen
theorem putL_len (l : List Int) (o n : Nat) (x : Int) : (putL l o n x).length = l.length := putR_len _ _ _ _ _
theorem set_bytes {l : List Int} (h : Bytes l) (i : Nat) {x : Int} (hx : 0 ≤ x ∧ x ≤ 255) : Bytes (l.set i x) := fun y hy => by
  rcases List.mem_or_eq_of_mem_set hy with h1 | h1
  · exact h y h1
  · rw [h1]; exact hx
theorem z64_b : Bytes z64 := fun x hx => by rw [List.eq_of_mem_replicate hx]; omega
theorem seal0_len {gen : Int} {place : Nat} {flags : Int} {d : List Int} (hd : d.length ≤ 50) : (seal0 gen place flags d).length = 64 := by
  unfold seal0
  rw [length_splice _ _ _ (by rw [List.length_set, List.length_set, putL_len, putL_len, z64_len]; omega), List.length_set, List.length_set, putL_len, putL_len, z64_len]
theorem seal0_b {gen : Int} {place : Nat} {flags : Int} {d : List Int} (hd : d.length ≤ 50) (hf : 0 ≤ flags ∧ flags ≤ 255) (hb : Bytes d) : Bytes (seal0 gen place flags d) :=
  splice_bytes (set_bytes (set_bytes (putR_bytes (putR_bytes z64_b _ _ _ _) _ _ _ _) 6 hf) 7 (by omega)) hb
theorem sealZ_len {gen : Int} {place : Nat} {flags : Int} {d : List Int} (hd : d.length ≤ 50) : (sealZ gen place flags d).length = 64 := by
  unfold sealZ
  rw [putL_len, putL_len, seal0_len hd]
theorem sealZ_b {gen : Int} {place : Nat} {flags : Int} {d : List Int} (hd : d.length ≤ 50) (hf : 0 ≤ flags ∧ flags ≤ 255) (hb : Bytes d) : Bytes (sealZ gen place flags d) := putR_bytes (putR_bytes (seal0_b hd hf hb) _ _ _ _) _ _ _ _
theorem size5' : (Try.prog.info? 5).map (·.size) = some 1 := by kernel_rfl
set_option maxRecDepth 100000 in
set_option maxHeartbeats 2000000 in
/-- The data: the slice's bytes d, or none. -/
theorem seal_any (gen : Int) (place : Nat) (flags : Int) (d : List Int) (da : Option Addr) (dc : Nat) (w : World) (hg : 0 ≤ gen ∧ gen < 4294967296) (hp : place ≤ 4096) (hf : 0 ≤ flags ∧ flags ≤ 255) (hd : d.length ≤ 50) (hb : Bytes d)
    (hda : 0 < d.length → ∃ b off, da = some ⟨b, off, none⟩ ∧ b < w.heap.size ∧ w.rangeAt b off (kv .u8 d)) :
    Calls Try.prog 57 #[.int .u32 gen, .int .i64 place, .int .u8 flags, .slice da d.length dc] w fun r w' => r = .returned (sec (sealZ gen place flags d)) ∧ Below w.heap.size w w' := by
  have HG := Kp.mk hg
  have HDb := Kp.mk hb
  have HDA := Kp.mk hda
  have HFl := Kp.mk hf
  obtain ⟨A, hA⟩ : ∃ A, A = w.heap.size := ⟨_, rfl⟩
  have HA := Kp.mk hA
  obtain ⟨dl, hdl⟩ : ∃ dl, dl = d.length := ⟨_, rfl⟩
  have HDL := Kp.mk hdl
  rw [← hdl] at hd ⊢
  rw [← hA]
  have HD50 := Kp.mk hd
  have hpl : ((place : Int) % 4294967296) = place := by omega
  have hd8 : (dl : Int) % 256 = dl := by omega
  have HP32 : Kp (0 ≤ (place : Int) ∧ (place : Int) < 4294967296) := ⟨by omega⟩
  obtain ⟨x0, hx0⟩ : ∃ x0, x0 = putL z64 0 4 gen := ⟨_, rfl⟩
  have HX0 := Kp.mk hx0
  have HL0 : Kp (x0.length = 64) := ⟨by rw [hx0, putL_len, z64_len]⟩
  obtain ⟨x1, hx1⟩ : ∃ x1, x1 = putL x0 4 2 place := ⟨_, rfl⟩
  have HX1 := Kp.mk hx1
  have HL1 : Kp (x1.length = 64) := ⟨by rw [hx1, putL_len, HL0.out]⟩
  obtain ⟨x5, hx5⟩ : ∃ x5, x5 = seal0 gen place flags d := ⟨_, rfl⟩
  have HX5 : Kp (x5 = splice ((x1.set 6 flags).set 7 dl) 8 d) := ⟨by rw [hx5, hx1, hx0, hdl]; rfl⟩
  have HL5 : Kp (x5.length = 64) := ⟨by rw [hx5]; exact seal0_len (by rw [← hdl]; exact hd)⟩
  have HB5 : Kp (Bytes x5) := ⟨by rw [hx5]; exact seal0_b (by rw [← hdl]; exact hd) hf hb⟩
  have HS5 : Kp (0 ≤ sumL (x5.take 58) ∧ sumL (x5.take 58) < 4294967296) := ⟨by
    have := sumL_bd (x5.take 58) (HB5.out.take 58)
    rw [List.length_take, HL5.out] at this
    omega⟩
  have HZ : Kp (sealZ gen place flags d = putL (putL x5 58 2 (sumL (x5.take 58))) 60 4 gen) := ⟨by rw [hx5]; rfl⟩
  have HLZ : Kp ((sealZ gen place flags d).length = 64) := ⟨sealZ_len (by rw [← hdl]; exact hd)⟩
  clear hg hb hda hf hdl hx0 hx1 hx5 hp
  go_enter Try.func57, Try.ntmps57
  go_wp2_with (first
    | (refine wpList_alloc_row rfl 35 rfl _ _ infoz64 ?_; refine wpl_world (w := w.alloc (.cells (kv .u8 z64).toArray 35)) (fun w2 => Row w2 A 35 .u8 z64 ∧ Below A w w2 ∧ w2.heap.size = A + 1) ⟨Blk.newAt _ HA.out, by rw [HA.out]; exact more (Below.refl _ _) _, by simp [HA.out]⟩ ?_; rw [← hA]; rintro W1 ⟨h1, h2, h3⟩; have K1 := Kp.mk h1; have K2 := Kp.mk h2; have K3 := Kp.mk h3; have hs1 := h3; clear h1 h2 h3 hA)
    | (refine wpList_alloc_row rfl 35 rfl _ _ infoz64 ?_; refine wpl_world (w := W1.alloc (.cells (kv .u8 z64).toArray 35)) (fun w2 => Row w2 (A + 1) 35 .u8 z64 ∧ Row w2 A 35 .u8 z64 ∧ Below A w w2) ⟨Blk.newAt _ K3.out.symm, K1.out.alloc _, K2.out.alloc (by rw [K3.out]; omega) _⟩ ?_; rintro W2 ⟨h1, h2, h3⟩; have H2 : Kp (Row W2 (A + 1) 35 .u8 z64 ∧ Row W2 A 35 .u8 z64 ∧ Below A w W2) := ⟨h1, h2, h3⟩; clear h1 h2 h3))
  refine (put_any (A + 1) 0 4 64 gen 35 z64 _ H2.out.1 (by rw [z64_len]; decide) (by decide) HG.out).mono ?_
  rintro r w3 ⟨⟨rv, rfl⟩, hT3⟩
  rw [← HX0.out] at hT3
  have H3 : Kp (Row w3 (A + 1) 35 .u8 x0 ∧ Row w3 A 35 .u8 z64 ∧ Below A w w3) := ⟨hT3.blk, hT3.keep H2.out.2.1 (by omega), H2.out.2.2.trans (hT3.below (by omega) (by have := H2.out.2.1.lt; omega))⟩
  clear hT3
  go_wp2_with fail
  refine (put_any (A + 1) 4 2 60 place 35 x0 _ H3.out.1 (by rw [HL0.out]; decide) (by decide) HP32.out).mono ?_
  rintro r w4 ⟨⟨rv2, rfl⟩, hT4⟩
  rw [← HX1.out] at hT4
  have H4 : Kp (Row w4 (A + 1) 35 .u8 x1 ∧ Row w4 A 35 .u8 z64 ∧ Below A w w4) := ⟨hT4.blk, hT4.keep H3.out.2.1 (by omega), H3.out.2.2.trans (hT4.below (by omega) (by have := H3.out.2.1.lt; omega))⟩
  have c6 := H4.out.1.cell (i := 6) (by rw [HL1.out]; decide)
  have c7 := H4.out.1.cell (i := 7) (by rw [HL1.out]; decide)
  have f6 := H4.out.1.frozen 6
  have f7 := H4.out.1.frozen 7
  have H4b : Kp (∀ W, W = (w4.setCell ⟨A + 1, 6, none⟩ (.int .u8 flags)).setCell ⟨A + 1, 7, none⟩ (.int .u8 dl) → Row W (A + 1) 35 .u8 ((x1.set 6 flags).set 7 dl) ∧ Row W A 35 .u8 z64 ∧ Below A w W) := ⟨by
    rintro W rfl
    exact ⟨(H4.out.1.set 6 flags).set 7 dl, (H4.out.2.1.other (p := ⟨A + 1, 6, none⟩) (by simp) _).other (p := ⟨A + 1, 7, none⟩) (by simp) _, (H4.out.2.2.setCell (p := ⟨A + 1, 6, none⟩) (by simp) _).setCell (p := ⟨A + 1, 7, none⟩) (by simp) _⟩⟩
  clear hT4
  go_wp2_with (first
    | (refine wpl_world (w := (w4.setCell ⟨A + 1, 6, none⟩ (.int .u8 flags)).setCell ⟨A + 1, 7, none⟩ (.int .u8 (dl : Int))) (fun w2 => Row w2 (A + 1) 35 .u8 ((x1.set 6 flags).set 7 dl) ∧ Row w2 A 35 .u8 z64 ∧ Below A w w2) (H4b.out _ rfl) ?_; rintro W4 h4; have H4c := Kp.mk h4; clear h4 c6 c7 f6 f7 H4b)
    | (refine wpList_copy_turn rfl (.tmp 23) (.tmp 24) 47 47 rfl 5 Try.underlying47 size5' (some ⟨A + 1, 8, none⟩) da 50 56 dl dc rfl rfl (A + 1) 8 (kv .u8 ((x1.set 6 flags).set 7 dl)) 35 W4 (Turn.same H4c.out.1) (kv .u8 d) ?c1 ?c2 ?c3 (kv_one _) ?_
       case c1 => rw [List.length_map, ← HDL.out]; exact (Nat.min_eq_left HD50.out).symm
       case c2 => (intro h0; obtain ⟨b, off, e1, e2, e3⟩ := HDA.out (by simpa using h0); refine ⟨rfl, _, e1, fun j v hv => ?_⟩; rw [add_off]; exact (H4c.out.2.2.cell (p := ⟨b, off + j, none⟩) (by rw [HA.out]; exact e2)).trans (e3 j v hv))
       case c3 => rw [List.length_map, List.length_map, List.length_set, List.length_set, HL1.out, ← HDL.out]; have := HD50.out; omega
       intro W5 hT5
       have H5 : Kp (Row W5 (A + 1) 35 .u8 x5 ∧ Row W5 A 35 .u8 z64 ∧ Below A w W5) := ⟨(by have h : Turn (A + 1) (.cells (splice (kv .u8 ((x1.set 6 flags).set 7 dl)) 8 (kv .u8 d)).toArray 35) W4 W5 := hT5; rw [splice_kv, ← HX5.out] at h; exact ⟨h.blk, h.keep H4c.out.2.1 (by omega), H4c.out.2.2.trans (h.below (by omega) (by have := H4c.out.2.1.lt; omega))⟩)⟩
       clear hT5))
  refine wp_region_any (by kernel_rfl) ?_
  change wpAny _ _ _ _ _ _ _ (World.drew _)
  refine wpAny_take (i := 0) (oi := { dst := some 26, op := Go.Op.slice 35 (Go.Operand.tmp 9) (some (Go.Operand.const (Go.Value.int Go.IntKind.i64 58))) (some (Go.Operand.const (Go.Value.int Go.IntKind.i64 60))) none, type := 47, pos := "sector.go:42", after := #[], guard := none }) (v := .slice (some ⟨A + 1, 58, none⟩) 2 6) rfl (by kernel_rfl) (by kernel_rfl) (by kernel_rfl) (fun _ _ _ h => h) (Or.inl ⟨by rfl, fun w => by go_simp⟩) ?_
  simp only [Act.put, List.setIfInBounds_toArray, List.set_cons_zero, List.set_cons_succ]
  refine wpAny_ready (rs := [1]) (by kernel_rfl) (by simp) ?_
  refine AllReady.cons (o := { dst := some 27, op := Go.Op.load 35 (Go.Operand.tmp 9), type := 35, pos := "sector.go:42", after := #[], guard := none }) rfl (fun K hK => ?_) AllReady.nil
  rw [if_pos (by rfl)]
  refine wp_load_row 35 (.tmp 9) rfl (A + 1) rfl 35 _ (0, 0) _ H5.out.1.drew Try.underlying35 rfl (cells64 HL5.out) ?_
  refine hK _ _ ?_
  clear hK K
  try simp only [Act.put, List.setIfInBounds_toArray, List.set_cons_zero, List.set_cons_succ]
  refine wpAny_ready (rs := [2]) (by kernel_rfl) (by simp) ?_
  refine AllReady.cons (o := { dst := some 28, op := Go.Op.call { callee := Go.Callee.value (Go.Operand.func 65), args := #[Go.Operand.tmp 27], argTypes := #[35] }, type := 55, pos := "sector.go:42", after := #[{ on := 1, ground := Go.Ground.data }], guard := none }) rfl (fun K hK => ?_) AllReady.nil
  go_simp
  refine (sum_any x5 _ HL5.out HB5.out).mono ?_
  rintro r w8 ⟨rfl, hb8⟩
  have H8 : Kp (Row w8 (A + 1) 35 .u8 x5 ∧ Row w8 A 35 .u8 z64 ∧ Below A w w8) := ⟨H5.out.1.drew.keep hb8, H5.out.2.1.drew.keep hb8, (show Below A w W5.drew from ⟨H5.out.2.2.os, H5.out.2.2.tape, H5.out.2.2.output, H5.out.2.2.size, H5.out.2.2.block⟩).trans (hb8.mono (by have := H5.out.2.1.lt; show A ≤ W5.heap.size; omega))⟩
  clear hb8
  refine hK _ _ ?_
  clear hK K
  try simp only [Act.put, List.setIfInBounds_toArray, List.set_cons_zero, List.set_cons_succ]
  refine wpAny_ready (rs := [3]) (by kernel_rfl) (by simp) ?_
  refine AllReady.cons (o := { dst := some 29, op := Go.Op.call { callee := Go.Callee.value (Go.Operand.func 64), args := #[Go.Operand.tmp 26, Go.Operand.tmp 28], argTypes := #[47, 55] }, type := 0, pos := "sector.go:42", after := #[{ on := 0, ground := Go.Ground.data }, { on := 2, ground := Go.Ground.data }, { on := 2, ground := Go.Ground.chain }], guard := none }) rfl (fun K hK => ?_) AllReady.nil
  go_simp
  refine (put_any (A + 1) 58 2 6 (sumL (x5.take 58)) 35 x5 _ H8.out.1 (by rw [HL5.out]; decide) (by decide) HS5.out).mono ?_
  rintro r w9 ⟨⟨rv, rfl⟩, hT9⟩
  have H9 : Kp (Row w9 (A + 1) 35 .u8 (putL x5 58 2 (sumL (x5.take 58))) ∧ Row w9 A 35 .u8 z64 ∧ Below A w w9) := ⟨hT9.blk, hT9.keep H8.out.2.1 (by omega), H8.out.2.2.trans (hT9.below (by omega) (by have := H8.out.2.1.lt; omega))⟩
  clear hT9
  refine hK _ _ ?_
  clear hK K
  try simp only [Act.put, List.setIfInBounds_toArray, List.set_cons_zero, List.set_cons_succ]
  refine wpAny_done (by kernel_rfl) ?_ _
  go_wp2_with fail
  refine (put_any (A + 1) 60 4 4 gen 35 _ _ H9.out.1 (by rw [putL_len, HL5.out]; decide) (by decide) HG.out).mono ?_
  rintro r w10 ⟨⟨rv3, rfl⟩, hT10⟩
  rw [← HZ.out] at hT10
  have H10 : Kp (Row w10 (A + 1) 35 .u8 (sealZ gen place flags d) ∧ Row w10 A 35 .u8 z64 ∧ Below A w w10) := ⟨hT10.blk, hT10.keep H9.out.2.1 (by omega), H9.out.2.2.trans (hT10.below (by omega) (by have := H9.out.2.1.lt; omega))⟩
  clear hT10
  go_wp2_with (first
    | (refine wpList_load_row rfl 35 (.tmp 9) rfl (A + 1) rfl 35 _ (0, 0) _ H10.out.1 Try.underlying35 rfl (cells64 HLZ.out) ?_)
    | (refine wpList_store_row rfl 35 (.tmp 8) (.tmp 33) rfl A (kv .u8 (sealZ gen place flags d)).toArray rfl rfl 35 _ H10.out.2.1 (cells64 HLZ.out) (by rw [kv_size, kv_size, HLZ.out, z64_len]) (kv_all _ _) ?_; refine wpl_world (fun w2 => Row w2 A 35 .u8 (sealZ gen place flags d) ∧ Below A w w2) ⟨H10.out.2.1.setRow _, Below.row H10.out.2.2 (Nat.le_refl _) _⟩ ?_; rintro W11 ⟨h1, h2⟩; have H11 := Kp.mk h1; have H12 := Kp.mk h2; clear h1 h2))
  exact bodyPost_ret (results_row rfl _ _ A 35 _ (0, 0) _ rfl H11.out Try.underlying35 rfl (cells64 HLZ.out)) rfl ⟨rfl, H12.out⟩
end Go.Proofs.Ytgikedbnnlckjaa
