/-
  layer 14: the document's example.
-/
import Derived.Test.YtgikedbnnlckjaaSlK
import Derived.Stop.BytesEq
namespace Go.Proofs.Ytgikedbnnlckjaa
open Go.RowKit

def fillZ (l : List Int) : List Int := l ++ List.replicate (64 - l.length) 0
def zA : List Int := fillZ [97]
def zB : List Int := fillZ [98, 98, 98, 98]
def zC : List Int := fillZ [98, 98, 98]
theorem zA_len : zA.length = 64 := by decide
theorem zB_len : zB.length = 64 := by decide
theorem zC_len : zC.length = 64 := by decide
theorem zA_b : Bytes zA := by unfold Bytes; decide
theorem zB_b : Bytes zB := by unfold Bytes; decide
theorem buildA (w : World) : (Instr.build 35 #[(0, .int .u8 97)]).run Try.prog w = .ok (sec zA) w := run_build w 35 _ _ (by kernel_rfl)
theorem buildB (w : World) : (Instr.build 35 #[(0, .int .u8 98), (1, .int .u8 98), (2, .int .u8 98), (3, .int .u8 98)]).run Try.prog w = .ok (sec zB) w := run_build w 35 _ _ (by kernel_rfl)
theorem buildC (w : World) : (Instr.build 35 #[(0, .int .u8 98), (1, .int .u8 98), (2, .int .u8 98)]).run Try.prog w = .ok (sec zC) w := run_build w 35 _ _ (by kernel_rfl)
theorem exec_buildA {o : Oper} {a : Act} {w : World} (ho : o.op = .build 35 #[(0, .const (.int .u8 97))]) : (execOp a.eval o).run Try.prog w = .ok (.value (sec zA)) w := by
  unfold execOp
  simp only [ho, List.map_toArray, List.map_cons, List.map_nil, Act.eval, Sem.run_bind, buildA, Result.andThen_ok, Sem.run_pure]
theorem exec_buildB {o : Oper} {a : Act} {w : World} (ho : o.op = .build 35 #[(0, .const (.int .u8 98)), (1, .const (.int .u8 98)), (2, .const (.int .u8 98)), (3, .const (.int .u8 98))]) : (execOp a.eval o).run Try.prog w = .ok (.value (sec zB)) w := by
  unfold execOp
  simp only [ho, List.map_toArray, List.map_cons, List.map_nil, Act.eval, Sem.run_bind, buildB, Result.andThen_ok, Sem.run_pure]
theorem exec_buildC {o : Oper} {a : Act} {w : World} (ho : o.op = .build 35 #[(0, .const (.int .u8 98)), (1, .const (.int .u8 98)), (2, .const (.int .u8 98))]) : (execOp a.eval o).run Try.prog w = .ok (.value (sec zC)) w := by
  unfold execOp
  simp only [ho, List.map_toArray, List.map_cons, List.map_nil, Act.eval, Sem.run_bind, buildC, Result.andThen_ok, Sem.run_pure]
def s1 : SlS := writeS (newS 2) 0 zA
def s2 : SlS := writeS s1 1 zB
def s3 : SlS := crashS s2 1 3
theorem s3_a : readZ s3 0 = zA ∧ hasE s3 0 = 0 := by decide +kernel
theorem s3_b : readZ s3 1 = zC ∧ hasE s3 1 = 0 := by decide +kernel
theorem wpList_valG {P : Program} {ops : Array Oper} {rest : List Oper} {o : Oper} {a : Act} {w w' : World} {Q : Exit → Act → World → Prop} {v : Value} (hw : Region.wanted o (yielded ops a.tmps) = true)
    (he : (execOp a.eval o).run P w = .ok (.value v) w')
    (h : wpList P ops Q rest (a.put o.dst v) w') : wpList P ops Q (o :: rest) a w := by
  refine wpList_step fun K hK => ?_
  rw [if_pos hw]
  unfold Oper.wp
  rw [he]
  exact hK _ _ h
theorem bv_cells {p : List Int} (h : Bytes p) : (p.map fun n => UInt8.ofNat n.toNat).map Extern.Stop.cell = kv .u8 p := by
  rw [List.map_map]
  refine List.map_congr_left fun x hx => ?_
  have := h x hx
  obtain ⟨m, rfl⟩ : ∃ m : Nat, x = m := ⟨x.toNat, by omega⟩
  simp only [Function.comp_def, Extern.Stop.cell, Int.toNat_natCast, UInt8.toNat_ofNat']
  congr 1
  have hm : m % 2 ^ 8 = m := Nat.mod_eq_of_lt (by omega)
  rw [hm]
  rfl
theorem eqIn35 {p : List Int} (h : p.length = 64) (hb : Bytes p) (w : World) : (Op.equalIn 10000 35 (sec p) (sec p)).run Try.prog w = .ok true w := by
  have := run_equalIn_bytes (P := Try.prog) w 9998 35 5 64 Try.underlying35 Try.underlying5 size5 (p.map fun n => UInt8.ofNat n.toNat) (p.map fun n => UInt8.ofNat n.toNat) (by simp [h]) (by simp [h])
  rw [bv_cells hb] at this
  simpa using this
theorem zC_b : Bytes zC := by unfold Bytes; decide
theorem wpList_load_rowG {P : Program} {ops : Array Oper} {rest : List Oper} {o : Oper} {a : Act} {w : World} {Q : Exit → Act → World → Prop} (hw : Region.wanted o (yielded ops a.tmps) = true) (ty : TypeId) (x : Operand) (ho : o.op = .load ty x)
    (g : Nat) (hx : a.eval x = .pointer (some ⟨g, 0, none⟩)) (t : TypeId) (cs : Array Value) (fr : Nat × Nat) (d : TypeDesc) (hg : w.heap[g]? = some (.cells cs t fr))
    (hu : P.underlying ty = some d) (hd : (match d with | .struct _ | .array _ _ => true | _ => false) = true) (hi : (P.info? ty).map (·.size) = some cs.size)
    (h : wpList P ops Q rest (a.put o.dst (.agg cs)) w) : wpList P ops Q (o :: rest) a w := by
  unfold wpList
  rw [if_pos hw]
  exact .inl (wp_load_row ty x ho g hx t cs fr d hg hu hd hi h)
set_option maxRecDepth 100000 in
set_option maxHeartbeats 2000000 in
theorem awake_any (w : World) : Calls Try.prog 10 #[] w fun r w' => r = .returned (.bool true) ∧ Below w.heap.size w w' := by
  have h2 := new_any 2 w (by decide) (by decide)
  go_enter Try.func10, Try.ntmps10
  go_wp2_with fail
  refine h2.mono ?_
  rintro r w1 ⟨rfl, h1, hb1⟩
  have H1 := Kp.mk h1
  have HB1 := Kp.mk hb1
  have HV1 : Kp (∀ k, (Value.slice none 0 0).ownBlock = some k → w.heap.size ≤ k) := ⟨fun k e => by cases e⟩
  clear h1 hb1 h2
  go_wp2_with (refine wpList_val rfl (exec_buildA rfl) ?_)
  refine (write_any _ _ _ 0 zA _ H1.out zA_len zA_b (by decide) (by decide)).mono ?_
  rintro r w2 ⟨v2, rfl, h2⟩
  have HS2 := Kp.mk h2
  clear h2
  go_wp2_with (refine wpList_val rfl (exec_buildB rfl) ?_)
  refine (write_any _ v2 s1 1 zB _ HS2.out.is zB_len zB_b (by decide) (by decide)).mono ?_
  rintro r w3 ⟨v3, rfl, h3⟩
  have HS3 : Kp (SlStep w.heap.size (Value.slice none 0 0) v3 s2 w1 w3) := ⟨HS2.out.trans h3⟩
  clear h3
  go_wp2_with fail
  refine (crash_any _ v3 s2 1 3 _ HS3.out.is (by decide)).mono ?_
  rintro r w4 ⟨v4, rfl, h4⟩
  have HS4 : Kp (SlStep w.heap.size (Value.slice none 0 0) v4 s3 w1 w4) := ⟨HS3.out.trans h4⟩
  have HB4 : Kp (Below w.heap.size w w4) := ⟨HB1.out.trans (HS4.out.below (Nat.le_refl _) HB1.out.size HV1.out)⟩
  clear h4
  go_wp2_with fail
  refine (read_any _ v4 s3 0 _ HS4.out.is (by decide)).mono ?_
  rintro r w5 ⟨rfl, hb5⟩
  rw [s3_a.1, s3_a.2]
  have H5 : Kp (SlIs w5 w.heap.size v4 s3) := ⟨HS4.out.is.keep hb5⟩
  have HB5 : Kp (Below w.heap.size w w5) := ⟨HB4.out.trans (hb5.mono HB4.out.size)⟩
  clear hb5
  obtain ⟨B, hB⟩ : ∃ B, B = w5.heap.size := ⟨_, rfl⟩
  have HBe := Kp.mk hB
  go_wp2_with (first
    | (refine wpList_alloc_row rfl 35 rfl _ _ infoz64 ?_; rw [← hB]; refine wpl_world (fun w6 => Row w6 B 35 .u8 z64 ∧ Below B w5 w6) ⟨Blk.newAt _ HBe.out, by rw [HBe.out]; exact more (Below.refl _ _) _⟩ ?_; rintro W6 ⟨h1, h2⟩; have K1 := Kp.mk h1; have K2 := Kp.mk h2; clear h1 h2)
    | (refine wpList_store_row rfl 35 (.tmp 3) (.tmp 28) rfl B (kv .u8 zA).toArray rfl rfl 35 _ K1.out (cells64 zA_len) (by rw [kv_size, kv_size, zA_len, z64_len]) (kv_all _ _) ?_; refine wpl_world (fun w6 => Row w6 B 35 .u8 zA ∧ Below B w5 w6) ⟨K1.out.setRow _, Below.row K2.out (Nat.le_refl _) _⟩ ?_; rintro W7 ⟨h1, h2⟩; have K3 := Kp.mk h1; have K4 := Kp.mk h2; clear h1 h2))
  have H7 : Kp (SlIs W7 w.heap.size v4 s3) := ⟨H5.out.keep (by rw [← HBe.out]; exact K4.out)⟩
  refine (read_any _ v4 s3 1 _ H7.out (by decide)).mono ?_
  rintro r w8 ⟨rfl, hb8⟩
  rw [s3_b.1, s3_b.2]
  have K5 := Kp.mk (K3.out.keep hb8)
  have HB8 : Kp (Below w.heap.size w w8) := ⟨(HB5.out.trans (K4.out.mono (by rw [HBe.out]; exact HB5.out.size))).trans (hb8.mono (Nat.le_trans HB5.out.size (by rw [← HBe.out]; have := K3.out.lt; omega)))⟩
  have HBl : Kp (B < w8.heap.size) := ⟨K5.out.lt⟩
  clear hb8 hB
  have heq := fun w => eqIn35 zC_len zC_b w
  obtain ⟨C, hC⟩ : ∃ C, C = w8.heap.size := ⟨_, rfl⟩
  have HCe := Kp.mk hC
  go_wp2_with (first
    | (refine wpList_alloc_row rfl 35 rfl _ _ infoz64 ?_; rw [← hC]; refine wpl_world (fun w6 => Row w6 C 35 .u8 z64 ∧ Below C w8 w6) ⟨Blk.newAt _ HCe.out, by rw [HCe.out]; exact more (Below.refl _ _) _⟩ ?_; rintro W6 ⟨h1, h2⟩; have K6 := Kp.mk h1; have K7 := Kp.mk h2; clear h1 h2)
    | (refine wpList_store_row rfl 35 (.tmp 5) (.tmp 33) rfl C (kv .u8 zC).toArray rfl rfl 35 _ K6.out (cells64 zC_len) (by rw [kv_size, kv_size, zC_len, z64_len]) (kv_all _ _) ?_; refine wpl_world (fun w6 => Row w6 C 35 .u8 zC ∧ Below C w8 w6) ⟨K6.out.setRow _, Below.row K7.out (Nat.le_refl _) _⟩ ?_; rintro W9 ⟨h1, h2⟩; have K8 := Kp.mk h1; have K9 := Kp.mk h2; have hc9 : W9.cell? ⟨w5.heap.size, 0, none⟩ = some (.int .u8 97) := (by rw [← HBe.out]; have e := (K5.out.upto h2 (by rw [HCe.out]; exact HBl.out)).cell (i := 0) (by rw [zA_len]; decide); exact e); clear h1 h2)
    | (refine wpList_load_rowG (by kernel_rfl) 35 (.tmp 5) rfl w8.heap.size rfl 35 _ (0, 0) _ (by rw [← HCe.out]; exact K8.out) Try.underlying35 rfl (cells64 zC_len) ?_)
    | (refine wpList_valG (by kernel_rfl) (exec_buildC rfl) ?_))
  go_ret
  exact ⟨rfl, HB8.out.trans (K9.out.mono (by rw [HCe.out]; exact HB8.out.size))⟩
end Go.Proofs.Ytgikedbnnlckjaa
