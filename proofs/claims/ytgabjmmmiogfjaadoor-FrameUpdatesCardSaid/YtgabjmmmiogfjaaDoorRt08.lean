/-
  The words of a block, as the document's answer makes them: plain lists.
  The document's Block.
  The document's First and K.
  The document's Sum.
  The document's Sum, walked.
  append, and in which block what comes of it lies; two rows that grow side by side.
-/
import Derived.Test.YtgabjmmmiogfjaaDoorRt07
import Derived.Deep.RegionWith
import Derived.ArgAppend
import Derived.OwnWalk
namespace Go.Proofs.YtgabjmmmiogfjaaDoor
open Go.RowKit

theorem sched_take (l : List Int) (n j : Nat) (h : j ≤ n) : (sched l n).take (16 + j) = sched l j := by
  induction n with
  | zero =>
    obtain rfl : j = 0 := by omega
    rw [List.take_of_length_le (by rw [sched_len]; omega)]
  | succ n ih =>
    by_cases hj : j ≤ n
    · have : sched l (n + 1) = sched l n ++ [w32 (w32 (w32 ((sched l n).getD n 0 + sm0 ((sched l n).getD (n + 1) 0)) + (sched l n).getD (n + 9) 0) + sm1 ((sched l n).getD (n + 14) 0))] := rfl
      rw [this, List.take_append_of_le_length (by rw [sched_len]; omega), ih hj]
    · obtain rfl : j = n + 1 := by omega
      rw [List.take_of_length_le (by rw [sched_len]; omega)]
theorem sched_get (l : List Int) (n j i : Nat) (h : j ≤ n) (hi : i < 16 + j) : (sched l n).getD i 0 = (sched l j).getD i 0 := by
  rw [← sched_take l n j h, take_getD hi]
theorem sched_low (l : List Int) (k : Nat) (h : k < 16) : (sched l 48).getD k 0 = word l k := by
  rw [sched_get l 48 0 k (by omega) (by omega)]
  simp [sched, List.getD_eq_getElem?_getD, h]
theorem sched_high (l : List Int) (k : Nat) (h16 : 16 ≤ k) (h : k < 64) :
    (sched l 48).getD k 0 = (sm1 ((sched l 48).getD (k - 2) 0) + (sched l 48).getD (k - 7) 0 + sm0 ((sched l 48).getD (k - 15) 0) + (sched l 48).getD (k - 16) 0) % 4294967296 := by
  obtain ⟨j, rfl⟩ : ∃ j, k = 16 + j := ⟨k - 16, by omega⟩
  have e : sched l (j + 1) = sched l j ++ [w32 (w32 (w32 ((sched l j).getD j 0 + sm0 ((sched l j).getD (j + 1) 0)) + (sched l j).getD (j + 9) 0) + sm1 ((sched l j).getD (j + 14) 0))] := rfl
  rw [sched_get l 48 (j + 1) (16 + j) (by omega) (by omega), e]
  rw [show 16 + j - 2 = j + 14 by omega, show 16 + j - 7 = j + 9 by omega, show 16 + j - 15 = j + 1 by omega, show 16 + j - 16 = j by omega]
  rw [sched_get l 48 j (j + 14) (by omega) (by omega), sched_get l 48 j (j + 9) (by omega) (by omega), sched_get l 48 j (j + 1) (by omega) (by omega), sched_get l 48 j j (by omega) (by omega)]
  have hl := sched_len l j
  generalize sched l j = S at *
  have e2 : (S ++ [w32 (w32 (w32 (S.getD j 0 + sm0 (S.getD (j + 1) 0)) + S.getD (j + 9) 0) + sm1 (S.getD (j + 14) 0))]).getD (16 + j) 0 = w32 (w32 (w32 (S.getD j 0 + sm0 (S.getD (j + 1) 0)) + S.getD (j + 9) 0) + sm1 (S.getD (j + 14) 0)) := by
    rw [List.getD_eq_getElem?_getD, List.getElem?_append_right (by omega), hl, Nat.sub_self]
    rfl
  rw [e2]
  unfold w32
  simp only [w32_mod]
  omega
theorem sched_step (l : List Int) (k : Nat) (h : k < 64) : (sched l 48).take (k + 1) = (sched l 48).take k ++ [(sched l 48).getD k 0] := by
  have hl : k < (sched l 48).length := by rw [sched_len]; omega
  rw [List.take_succ_eq_append_getElem hl, List.getD_eq_getElem?_getD, List.getElem?_eq_getElem hl]
  rfl
theorem rotrS (x : Int) (n : Nat) (k : Int) (w : World) (hk : k = (n : Int)) (h1 : 1 ≤ n) (h2 : n ≤ 31) : Calls Tryd.prog 117 #[.int .u32 x, .int .u64 k] w fun r w' => r = .returned (.int .u32 (rot x n)) ∧ w' = w :=
  (rotr x n k w hk h1 h2).mono fun _ _ ⟨a, b⟩ => ⟨a, b.symm⟩
end Go.Proofs.YtgabjmmmiogfjaaDoor

namespace Go.Proofs.YtgabjmmmiogfjaaDoor
open Go.RowKit

/-- What stays through the document's Block: the state, the constants, the result's room; nothing below A turns. -/
structure Fx (A K R : Nat) (sl : List Int) (w wr : World) : Prop where
  st : Row wr A 168 .u32 sl
  kn : Row wr K 170 .u32 kon
  rs : Row wr R 168 .u32 (fill 8 [])
  be : Below A w wr
theorem Fx.set {A K R b i : Nat} {v : Value} {sl : List Int} {w wr : World} (h : Fx A K R sl w wr) (h1 : b ≠ A) (h2 : b ≠ K) (h3 : b ≠ R) (h4 : A ≤ b) : Fx A K R sl w (wr.setCell ⟨b, i, none⟩ v) :=
  ⟨h.st.other (by exact h1) _, h.kn.other (by exact h2) _, h.rs.other (by exact h3) _, h.be.setCell (by exact h4) _⟩
theorem Fx.row {A K R b : Nat} {cs : Array Value} {sl : List Int} {w wr : World} (h : Fx A K R sl w wr) (h1 : b ≠ A) (h2 : b ≠ K) (h3 : b ≠ R) (h4 : A ≤ b) : Fx A K R sl w (wr.setRow b cs) :=
  ⟨h.st.otherRow (Ne.symm h1) _, h.kn.otherRow (Ne.symm h2) _, h.rs.otherRow (Ne.symm h3) _, Below.row h.be h4 _⟩
theorem Fx.drewN {A K R : Nat} {sl : List Int} {w wr : World} (h : Fx A K R sl w wr) (n : Nat) : Fx A K R sl w (wr.drewN n) := ⟨h.st, h.kn, h.rs, below_drewN h.be n⟩
theorem Fx.drew {A K R : Nat} {sl : List Int} {w wr : World} (h : Fx A K R sl w wr) : Fx A K R sl w wr.drew := ⟨h.st, h.kn, h.rs, h.be.drew⟩
theorem Fx.alloc {A K R : Nat} {sl : List Int} {w wr : World} (h : Fx A K R sl w wr) (o : Obj) : Fx A K R sl w (wr.alloc o) := ⟨h.st.alloc _, h.kn.alloc _, h.rs.alloc _, h.be.alloc (Nat.le_of_lt h.st.lt) _⟩
theorem info68' : (Tryd.prog.info? 168).map (·.size) = some 8 := by kernel_rfl
theorem cells68 {l : List Int} (h : l.length = 8) : (Tryd.prog.info? 168).map (·.size) = some (kv .u32 l).toArray.size := by rw [info68', kv_size, h]
abbrev z68 : Obj := .cells (kv .u32 (fill 8 [])).toArray 168
theorem size8 {l : List Int} (h : l.length = 8) : (kv .u32 (fill 8 [])).toArray.size = (kv .u32 l).toArray.size := by rw [kv_size, kv_size, h]; rfl
theorem step1_max (t : St) (kk ww T : Int) (h : (((t.h + bits BinOp.xor IntKind.u32 (bits BinOp.xor IntKind.u32 (rot t.e 6) (rot t.e 11)) (rot t.e 25) + bits BinOp.xor IntKind.u32 (bits BinOp.and IntKind.u32 t.e t.f)
    (bits BinOp.and IntKind.u32 (bits BinOp.xor IntKind.u32 IntKind.u32.max t.e) t.g) + kk) % 4294967296 + ww) % 4294967296 = T)) : T = step1 t kk ww := step1_eq t kk ww T h
theorem Fx.setA {A K R i : Nat} {x : Int} {sl : List Int} {w wr : World} (h : Fx A K R sl w wr) (h1 : A ≠ K) (h2 : A ≠ R) : Fx A K R (sl.set i x) w (wr.setCell ⟨A, i, none⟩ (.int .u32 x)) :=
  ⟨h.st.set i x, h.kn.other (by exact h1) _, h.rs.other (by exact h2) _, h.be.setCell (Nat.le_refl _) _⟩
theorem word_add (x0 x1 x2 x3 : Int) (_h0 : 0 ≤ x0 ∧ x0 ≤ 255) (_h1 : 0 ≤ x1 ∧ x1 ≤ 255) (_h2 : 0 ≤ x2 ∧ x2 ≤ 255) (_h3 : 0 ≤ x3 ∧ x3 ≤ 255) : x0 * 16777216 + x1 * 65536 + x2 * 256 + x3 = ((x0 * 256 + x1) * 256 + x2) * 256 + x3 := by omega
set_option maxRecDepth 100000 in
set_option maxHeartbeats 2000000 in
theorem rblock_any (M : Nat) (s : St) (v : Value) (l : List Int) (w : World) (h : HoldsB w M v l) (hl : l.length = 64) :
    Calls Tryd.prog 114 #[.agg (kv .u32 s.list).toArray, v, .agg (kv .u32 kon).toArray] w fun r w' => r = .returned (.agg (kv .u32 (block s l).list).toArray) ∧ Below w.heap.size w w' := by
  obtain ⟨b, off, cap, rfl, _, _, _, hbw, hcell⟩ := h.open (by omega)
  rw [hl]
  have HCell : Kp (∀ i, i < 64 → w.cell? ⟨b, off + i, none⟩ = some (.int .u8 (l.getD i 0))) := ⟨fun i hi => hcell i (by omega)⟩
  have HBy : Kp (∀ i, i < 64 → 0 ≤ l.getD i 0 ∧ l.getD i 0 ≤ 255) := ⟨fun i hi => h.bytes.at (by omega)⟩
  have HBw := Kp.mk hbw
  clear hcell hl h hbw
  go_enter Tryd.func114, Tryd.ntmps114
  go_wp2_with fail
  refine wp_world (fun wr => Row wr (w.heap.size + 1 + 1 + 1) 170 .u32 (fill 64 ((sched l 48).take 0)) ∧ Fx w.heap.size (w.heap.size + 1) (w.heap.size + 1 + 1) s.list w wr)
    ⟨Blk.newAt _ (by simp), ⟨Blk.old (Blk.old (Blk.old (Blk.newAt _ rfl) _) _) _, Blk.old (Blk.old (Blk.newAt _ (by simp)) _) _, Blk.old (Blk.newAt _ (by simp)) _, more (more (more (more (Below.refl _ _) _) _) _) _⟩⟩ ?_
  obtain ⟨A, hA⟩ : ∃ A, A = w.heap.size := ⟨_, rfl⟩
  have HBA : Kp (b < A) := ⟨by have := HBw.out; omega⟩
  rw [← hA]
  have HAe := Kp.mk hA
  generalize hV : A + 1 + 1 + 1 = V
  generalize hR : A + 1 + 1 = R
  generalize hK : A + 1 = K
  have HN : Kp (K = A + 1 ∧ R = A + 2 ∧ V = A + 3) := ⟨by omega⟩
  clear hV hR hK hA
  rintro w1 ⟨h1, h2⟩
  have H1 := Kp.mk h1
  have H2 := Kp.mk h2
  clear h1 h2
  go_loopw [8] (fun c wr => ∃ k : Nat, k ≤ 64 ∧ c = .int .i64 k ∧ Row wr V 170 .u32 (fill 64 ((sched l 48).take k)) ∧ Fx A K R s.list w wr) (fun c _ => 64 - (intOf c).toNat)
  case atStart => exact ⟨0, by omega, rfl, H1.out, H2.out⟩
  case round =>
    obtain ⟨k, hk, rfl, h1, h2⟩ := hrel
    have G1 := Kp.mk h1
    have G2 := Kp.mk h2
    clear h1 h2 H1 H2
    by_cases hlt : k < 64
    · have HLt : Kp (((sched l 48).take k).length = k) := ⟨by rw [List.length_take, sched_len]; omega⟩
      have HSt := Kp.mk (sched_step l k hlt)
      by_cases h16 : k < 16
      · have HW := Kp.mk (sched_low l k h16)
        have cell : ∀ i, i < 64 → wr.cell? ⟨b, off + i, none⟩ = some (.int .u8 (l.getD i 0)) := fun i hi =>
          (World.cell?_of_block (w := w) (a := ⟨b, off + i, none⟩) (G2.out.be.block b HBA.out)).trans (HCell.out i hi)
        have c0 := cell (4 * k) (by omega)
        have c1 := cell (4 * k + 1) (by omega)
        have c2 := cell (4 * k + 2) (by omega)
        have c3 := cell (4 * k + 3) (by omega)
        have r0 := HBy.out (4 * k) (by omega)
        have r1 := HBy.out (4 * k + 1) (by omega)
        have r2 := HBy.out (4 * k + 2) (by omega)
        have r3 := HBy.out (4 * k + 3) (by omega)
        have HX : Kp (word l k = ((l.getD (4 * k) 0 * 256 + l.getD (4 * k + 1) 0) * 256 + l.getD (4 * k + 2) 0) * 256 + l.getD (4 * k + 3) 0) := ⟨rfl⟩
        clear cell
        generalize l.getD (4 * k) 0 = x0 at *
        generalize l.getD (4 * k + 1) 0 = x1 at *
        generalize l.getD (4 * k + 2) 0 = x2 at *
        generalize l.getD (4 * k + 3) 0 = x3 at *
        rw [← word_add x0 x1 x2 x3 r0 r1 r2 r3] at HX
        go_wp2_with fail
        have k64 : (k : Int) < 64 := by omega
        have a0 : 4 * (k : Int) < 64 := by omega
        have a1 : 4 * (k : Int) + 1 < 64 := by omega
        have a2 : 4 * (k : Int) + 2 < 64 := by omega
        have a3 : 4 * (k : Int) + 3 < 64 := by omega
        have p0 : 0 ≤ 4 * (k : Int) := by omega
        have p1 : 0 ≤ 4 * (k : Int) + 1 := by omega
        have p2 : 0 ≤ 4 * (k : Int) + 2 := by omega
        have p3 : 0 ≤ 4 * (k : Int) + 3 := by omega
        have n0 : (4 * (k : Int)).toNat = 4 * k := by omega
        have n1 : (4 * (k : Int) + 1).toNat = 4 * k + 1 := by omega
        have n2 : (4 * (k : Int) + 2).toNat = 4 * k + 2 := by omega
        have n3 : (4 * (k : Int) + 3).toNat = 4 * k + 3 := by omega
        have e0 : IntKind.i64.wrap (4 * (k : Int)) = 4 * (k : Int) := IntWalk.i64_in _ (by omega)
        have e1 : IntKind.i64.wrap (4 * (k : Int) + 1) = 4 * (k : Int) + 1 := IntWalk.i64_in _ (by omega)
        have e2 : IntKind.i64.wrap (4 * (k : Int) + 2) = 4 * (k : Int) + 2 := IntWalk.i64_in _ (by omega)
        have e3 : IntKind.i64.wrap (4 * (k : Int) + 3) = 4 * (k : Int) + 3 := IntWalk.i64_in _ (by omega)
        go_still_tail 35, (by kernel_rfl)
        clear k64 a0 a1 a2 a3 p0 p1 p2 p3 n0 n1 n2 n3 e0 e1 e2 e3 c0 c1 c2 c3
        refine wpl_world (fun w2 => Row w2 V 170 .u32 (fill 64 ((sched l 48).take k)) ∧ Fx A K R s.list w w2) ⟨G1.out.drew, G2.out.drew⟩ ?_
        rintro w2 ⟨h1, h2⟩
        have F1 := Kp.mk h1
        have F2 := Kp.mk h2
        have cw := h1.cell (i := k) (by rw [fill_len (by rw [HLt.out]; omega)]; omega)
        have fw := h1.frozen k
        clear h1 h2
        go_wp2_with fail
        refine ⟨⟨k + 1, by omega, by go_num, ?_, F2.out.set (by have := HN.out; omega) (by have := HN.out; omega) (by have := HN.out; omega) (by have := HN.out; omega)⟩, by simp [intOf]; omega⟩
        refine (F1.out.set k _).as ?_
        have h3 := fill_set (n := 64) (l := (sched l 48).take k) (by rw [HLt.out]; exact hlt) (word l k)
        rw [HLt.out] at h3
        rw [HSt.out, HW.out, ← h3, HX.out]
      · have h16' : 16 ≤ k := by omega
        have HW := Kp.mk (sched_high l k h16' hlt)
        have cell : ∀ i, i < k → wr.cell? ⟨V, i, none⟩ = some (.int .u32 ((sched l 48).getD i 0)) := fun i hi => by
          rw [G1.out.cell (i := i) (by rw [fill_len (by rw [HLt.out]; omega)]; omega), fill_get (by rw [HLt.out]; exact hi), take_getD hi]
        have c2 := cell (k - 2) (by omega)
        have c7 := cell (k - 7) (by omega)
        have c15 := cell (k - 15) (by omega)
        have c16 := cell (k - 16) (by omega)
        clear cell
        generalize (sched l 48).getD (k - 2) 0 = y2 at *
        generalize (sched l 48).getD (k - 7) 0 = y7 at *
        generalize (sched l 48).getD (k - 15) 0 = y15 at *
        generalize (sched l 48).getD (k - 16) 0 = y16 at *
        have t16 : ¬ ((k : Int) < 16) := by omega
        have k16 : 16 ≤ (k : Int) := by omega
        have k64 : (k : Int) < 64 := by omega
        have a2 : (k : Int) - 2 < 64 := by omega
        have a7 : (k : Int) - 7 < 64 := by omega
        have a15 : (k : Int) - 15 < 64 := by omega
        have a16 : (k : Int) - 16 < 64 := by omega
        have n2 : ((k : Int) - 2).toNat = k - 2 := by omega
        have n7 : ((k : Int) - 7).toNat = k - 7 := by omega
        have n15 : ((k : Int) - 15).toNat = k - 15 := by omega
        have n16 : ((k : Int) - 16).toNat = k - 16 := by omega
        have p2 : 0 ≤ (k : Int) - 2 := by omega
        have p7 : 0 ≤ (k : Int) - 7 := by omega
        have p15 : 0 ≤ (k : Int) - 15 := by omega
        have p16 : 0 ≤ (k : Int) - 16 := by omega
        have e2 : IntKind.i64.wrap ((k : Int) - 2) = (k : Int) - 2 := IntWalk.i64_in _ (by omega)
        have e7 : IntKind.i64.wrap ((k : Int) - 7) = (k : Int) - 7 := IntWalk.i64_in _ (by omega)
        have e15 : IntKind.i64.wrap ((k : Int) - 15) = (k : Int) - 15 := IntWalk.i64_in _ (by omega)
        have e16 : IntKind.i64.wrap ((k : Int) - 16) = (k : Int) - 16 := IntWalk.i64_in _ (by omega)
        clear h16 h16' hlt
        go_wp2_with fail
        go_quiet ((first
          | (go_at_call_of 117 (Value.int IntKind.u64 7); with_reducible exact Calls.quiet_of_same (rotrS y15 7 7 _ rfl (by decide) (by decide)))
          | (go_at_call_of 117 (Value.int IntKind.u64 18); with_reducible exact Calls.quiet_of_same (rotrS y15 18 18 _ rfl (by decide) (by decide)))))
        have HA := Kp.mk (show bits .xor .u32 (bits .xor .u32 (rot y15 7) (rot y15 18)) (y15 / 8) = sm0 y15 from rfl)
        rw [HA.out]
        generalize sm0 y15 = s0 at HW
        have F1 := Kp.mk (G1.out.drewN nq)
        have F2 := Kp.mk (G2.out.drewN nq)
        have d2 : (wr.drewN nq).cell? ⟨V, k - 2, none⟩ = some (.int .u32 y2) := c2
        have d7 : (wr.drewN nq).cell? ⟨V, k - 7, none⟩ = some (.int .u32 y7) := c7
        have d16 : (wr.drewN nq).cell? ⟨V, k - 16, none⟩ = some (.int .u32 y16) := c16
        clear c2 c7 c15 c16 G1 G2
        generalize wr.drewN nq = w2 at *
        go_wp2_with fail
        go_quiet ((first
          | (go_at_call_of 117 (Value.int IntKind.u64 17); with_reducible exact Calls.quiet_of_same (rotrS y2 17 17 _ rfl (by decide) (by decide)))
          | (go_at_call_of 117 (Value.int IntKind.u64 19); with_reducible exact Calls.quiet_of_same (rotrS y2 19 19 _ rfl (by decide) (by decide)))))
        have HA2 := Kp.mk (show bits .xor .u32 (bits .xor .u32 (rot y2 17) (rot y2 19)) (y2 / 1024) = sm1 y2 from rfl)
        rw [HA2.out]
        generalize sm1 y2 = s1 at HW
        have E1 := Kp.mk (F1.out.drewN nq)
        have E2 := Kp.mk (F2.out.drewN nq)
        have f7 : (w2.drewN nq).cell? ⟨V, k - 7, none⟩ = some (.int .u32 y7) := d7
        have f16 : (w2.drewN nq).cell? ⟨V, k - 16, none⟩ = some (.int .u32 y16) := d16
        clear d2 d7 d16 F1 F2
        generalize w2.drewN nq = w3 at *
        go_wp2_with fail
        have q7 : 7 ≤ (k : Int) := by omega
        have q16 : 16 ≤ (k : Int) := by omega
        refine wp_region_still_tail 15 (by kernel_rfl) (by kernel_rfl) ?_
        simp only [List.take_succ_cons, List.take_zero, List.drop_succ_cons, List.drop_zero]
        iterate 15 still_step
        refine wpStill_nil ?_
        clear a2 a7 a15 a16 n2 n7 n15 n16 p2 p7 p15 p16 e2 e7 e15 e16 f7 f16
        refine wpl_world (fun w2 => Row w2 V 170 .u32 (fill 64 ((sched l 48).take k)) ∧ Fx A K R s.list w w2) ⟨E1.out.drew, E2.out.drew⟩ ?_
        rintro w4 ⟨h1, h2⟩
        have D1 := Kp.mk h1
        have D2 := Kp.mk h2
        have cw := h1.cell (i := k) (by rw [fill_len (by rw [HLt.out]; omega)]; omega)
        have fw := h1.frozen k
        clear h1 h2
        go_wp2_with fail
        refine ⟨⟨k + 1, by omega, by go_num, ?_, D2.out.set (by have := HN.out; omega) (by have := HN.out; omega) (by have := HN.out; omega) (by have := HN.out; omega)⟩, by simp [intOf]; omega⟩
        refine (D1.out.set k _).as ?_
        have h3 := fill_set (n := 64) (l := (sched l 48).take k) (by rw [HLt.out]; omega) ((s1 + y7 + s0 + y16) % 4294967296)
        rw [HLt.out] at h3
        rw [HSt.out, HW.out, ← h3]
    · have HK64 : Kp (k = 64) := ⟨by omega⟩
      have hge : 64 ≤ (k : Int) := by omega
      have G3 : Kp (Row wr V 170 .u32 (sched l 48)) := by
        have h := G1.out
        rw [HK64.out, List.take_of_length_le (by rw [sched_len]; omega), fill_full (by rw [sched_len])] at h
        exact ⟨h⟩
      clear hlt hk G1
      have HC8 := Kp.mk (cells68 (list_len s))
      have HS8 := Kp.mk (size8 (list_len s))
      obtain ⟨X, hX⟩ : ∃ X, X = wr.heap.size := ⟨_, rfl⟩
      have HX := Kp.mk hX
      have HXV : Kp (V < X) := ⟨by rw [hX]; exact G3.out.lt⟩
      clear hX
      go_wp2_with (first
        | (refine wpList_load_row rfl 168 (.tmp 3) rfl A rfl 168 (kv .u32 s.list).toArray (0, 0) _ G2.out.st Tryd.underlying168 rfl HC8.out ?_)
        | (refine wpList_store_row rfl 168 (.tmp 11) (.tmp 108) rfl wr.heap.size (kv .u32 s.list).toArray rfl rfl 168 _ (Blk.new wr z68) HC8.out HS8.out (kv_all _ _) ?_))
      rw [← HX.out]
      refine wp_world (fun w2 => Row w2 V 170 .u32 (sched l 48) ∧ Fx A K R s.list w w2 ∧ Row w2 X 168 .u32 s.list) ⟨Row.otherRow (G3.out.alloc _) (by have := HXV.out; omega) _, Fx.row (G2.out.alloc z68) (by have := HN.out; have := HXV.out; omega) (by have := HN.out; have := HXV.out; omega) (by have := HN.out; have := HXV.out; omega) (by have := HN.out; have := HXV.out; omega), Row.setRow (k := .u32) (l := fill 8 []) (Blk.newAt z68 HX.out) _⟩ ?_
      rintro w2 ⟨h1, h2, h3⟩
      have H1 := Kp.mk h1
      have H2 := Kp.mk h2
      have H3 := Kp.mk h3
      clear h1 h2 h3 G2 G3 HX hge
      go_wp2_with fail
      go_loopw [12] (fun c wr => ∃ k : Nat, k ≤ 64 ∧ c = .int .i64 k ∧ Row wr V 170 .u32 (sched l 48) ∧ Fx A K R s.list w wr ∧ Row wr X 168 .u32 (rnds s (sched l 48) k).list) (fun c _ => 64 - (intOf c).toNat)
      case atStart => exact ⟨0, by omega, rfl, H1.out, H2.out, H3.out⟩
      case round =>
        obtain ⟨i, hi, rfl, h1, h2, h3⟩ := hrel
        have G1 := Kp.mk h1
        have G2 := Kp.mk h2
        have G3 := Kp.mk h3
        clear h1 h2 h3 H1 H2 H3
        by_cases hlt : i < 64
        · have HSt := Kp.mk (rnds_succ s (sched l 48) i)
          have cell : ∀ j, j < 8 → wr.cell? ⟨X, j, none⟩ = some (.int .u32 ((rnds s (sched l 48) i).list.getD j 0)) := fun j hj => G3.out.cell (by rw [list_len]; exact hj)
          have c0 : wr.cell? ⟨X, 0, none⟩ = some (.int .u32 (rnds s (sched l 48) i).a) := cell 0 (by omega)
          have c1 : wr.cell? ⟨X, 1, none⟩ = some (.int .u32 (rnds s (sched l 48) i).b) := cell 1 (by omega)
          have c2 : wr.cell? ⟨X, 2, none⟩ = some (.int .u32 (rnds s (sched l 48) i).c) := cell 2 (by omega)
          have c3 : wr.cell? ⟨X, 3, none⟩ = some (.int .u32 (rnds s (sched l 48) i).d) := cell 3 (by omega)
          have c4 : wr.cell? ⟨X, 4, none⟩ = some (.int .u32 (rnds s (sched l 48) i).e) := cell 4 (by omega)
          have c5 : wr.cell? ⟨X, 5, none⟩ = some (.int .u32 (rnds s (sched l 48) i).f) := cell 5 (by omega)
          have c6 : wr.cell? ⟨X, 6, none⟩ = some (.int .u32 (rnds s (sched l 48) i).g) := cell 6 (by omega)
          have c7 : wr.cell? ⟨X, 7, none⟩ = some (.int .u32 (rnds s (sched l 48) i).h) := cell 7 (by omega)
          have ck := G2.out.kn.cell (i := i) (by rw [kon_len]; exact hlt)
          have cw := G1.out.cell (i := i) (by rw [sched_len]; omega)
          have HTt : Kp (St.mk (rnds s (sched l 48) i).a (rnds s (sched l 48) i).b (rnds s (sched l 48) i).c (rnds s (sched l 48) i).d (rnds s (sched l 48) i).e (rnds s (sched l 48) i).f (rnds s (sched l 48) i).g (rnds s (sched l 48) i).h = rnds s (sched l 48) i) := ⟨rfl⟩
          clear cell
          generalize kon.getD i 0 = kk at *
          generalize (sched l 48).getD i 0 = ww at *
          generalize (rnds s (sched l 48) i).a = ta at *
          generalize (rnds s (sched l 48) i).b = tb at *
          generalize (rnds s (sched l 48) i).c = tc at *
          generalize (rnds s (sched l 48) i).d = td at *
          generalize (rnds s (sched l 48) i).e = te at *
          generalize (rnds s (sched l 48) i).f = tf at *
          generalize (rnds s (sched l 48) i).g = tg at *
          generalize (rnds s (sched l 48) i).h = th at *
          have i64 : (i : Int) < 64 := by omega
          go_wp2_with fail
          go_quiet ((first
            | (go_at_call_of 117 (Value.int IntKind.u64 6); with_reducible exact Calls.quiet_of_same (rotrS te 6 6 _ rfl (by decide) (by decide)))
            | (go_at_call_of 117 (Value.int IntKind.u64 11); with_reducible exact Calls.quiet_of_same (rotrS te 11 11 _ rfl (by decide) (by decide)))
            | (go_at_call_of 117 (Value.int IntKind.u64 25); with_reducible exact Calls.quiet_of_same (rotrS te 25 25 _ rfl (by decide) (by decide)))))
          generalize hT1 : ((_ + ww) % 4294967296 : Int) = T1
          have HT1 := Kp.mk (step1_max ⟨ta, tb, tc, td, te, tf, tg, th⟩ kk ww T1 hT1)
          clear hT1
          have HMj := Kp.mk (show bits .xor .u32 (bits .xor .u32 (bits .and .u32 ta tb) (bits .and .u32 ta tc)) (bits .and .u32 tb tc) = maj ta tb tc from rfl)
          rw [HMj.out]
          generalize hA1 : bits .xor .u32 IntKind.u32.max te = y1
          generalize hA2 : bits .and .u32 y1 tg = y2
          generalize hA3 : bits .and .u32 te tf = y3
          generalize hA4 : bits .xor .u32 y3 y2 = y4
          generalize hA5 : bits .xor .u32 (bits .xor .u32 (rot te 6) (rot te 11)) (rot te 25) = y5
          generalize ((_ + kk) % 4294967296 : Int) = y6
          generalize ((_ + y4) % 4294967296 : Int) = y7
          generalize ((_ + y5) % 4294967296 : Int) = y8
          clear hA1 hA2 hA3 hA4 hA5
          have F1 := Kp.mk (G1.out.drewN nq)
          have F2 := Kp.mk (G2.out.drewN nq)
          have F3 := Kp.mk (G3.out.drewN nq)
          have d0 : (wr.drewN nq).cell? ⟨X, 0, none⟩ = some (.int .u32 ta) := c0
          have d1 : (wr.drewN nq).cell? ⟨X, 1, none⟩ = some (.int .u32 tb) := c1
          have d2 : (wr.drewN nq).cell? ⟨X, 2, none⟩ = some (.int .u32 tc) := c2
          have d3 : (wr.drewN nq).cell? ⟨X, 3, none⟩ = some (.int .u32 td) := c3
          have d4 : (wr.drewN nq).cell? ⟨X, 4, none⟩ = some (.int .u32 te) := c4
          have d5 : (wr.drewN nq).cell? ⟨X, 5, none⟩ = some (.int .u32 tf) := c5
          have d6 : (wr.drewN nq).cell? ⟨X, 6, none⟩ = some (.int .u32 tg) := c6
          clear c0 c1 c2 c3 c4 c5 c6 c7 ck cw G1 G2 G3
          generalize wr.drewN nq = w4 at *
          generalize hmj : maj ta tb tc = mj at *
          have HMk := Kp.mk hmj
          clear hmj HMj
          go_wp2_with fail
          go_quiet ((first
            | (go_at_call_of 117 (Value.int IntKind.u64 2); with_reducible exact Calls.quiet_of_same (rotrS ta 2 2 _ rfl (by decide) (by decide)))
            | (go_at_call_of 117 (Value.int IntKind.u64 13); with_reducible exact Calls.quiet_of_same (rotrS ta 13 13 _ rfl (by decide) (by decide)))
            | (go_at_call_of 117 (Value.int IntKind.u64 22); with_reducible exact Calls.quiet_of_same (rotrS ta 22 22 _ rfl (by decide) (by decide)))))
          have HBg := Kp.mk (show bits .xor .u32 (bits .xor .u32 (rot ta 2) (rot ta 13)) (rot ta 22) = bg0 ta from rfl)
          rw [HBg.out]
          generalize hT2 : ((bg0 ta + mj) % 4294967296 : Int) = T2
          generalize bg0 ta = z1
          have HT2 : Kp (T2 = step2 ⟨ta, tb, tc, td, te, tf, tg, th⟩) := ⟨by rw [← hT2, ← HMk.out]; exact (w32_mod _).symm⟩
          clear hT2
          have E1 := Kp.mk (F1.out.drewN nq)
          have E2 := Kp.mk (F2.out.drewN nq)
          have E3 := Kp.mk (F3.out.drewN nq)
          have f0 : (w4.drewN nq).cell? ⟨X, 0, none⟩ = some (.int .u32 ta) := d0
          have f1 : (w4.drewN nq).cell? ⟨X, 1, none⟩ = some (.int .u32 tb) := d1
          have f2 : (w4.drewN nq).cell? ⟨X, 2, none⟩ = some (.int .u32 tc) := d2
          have f3 : (w4.drewN nq).cell? ⟨X, 3, none⟩ = some (.int .u32 td) := d3
          have f4 : (w4.drewN nq).cell? ⟨X, 4, none⟩ = some (.int .u32 te) := d4
          have f5 : (w4.drewN nq).cell? ⟨X, 5, none⟩ = some (.int .u32 tf) := d5
          have f6 : (w4.drewN nq).cell? ⟨X, 6, none⟩ = some (.int .u32 tg) := d6
          clear d0 d1 d2 d3 d4 d5 d6 F1 F2 F3
          generalize w4.drewN nq = w5 at *
          have HC8' : Kp ((Tryd.prog.info? 168).map (·.size) = some (kv .u32 [(T1 + T2) % 4294967296, ta, tb, tc, (td + T1) % 4294967296, te, tf, tg]).toArray.size) := ⟨cells68 rfl⟩
          have HS8' : Kp ((kv .u32 (rnds s (sched l 48) i).list).toArray.size = (kv .u32 [(T1 + T2) % 4294967296, ta, tb, tc, (td + T1) % 4294967296, te, tf, tg]).toArray.size) := ⟨by rw [kv_size, kv_size]; rfl⟩
          have HA8' : Kp ((kv .u32 [(T1 + T2) % 4294967296, ta, tb, tc, (td + T1) % 4294967296, te, tf, tg]).toArray.all (·.oneCell') = true) := ⟨kv_all _ _⟩
          go_wp2_with (refine wpList_store_row rfl 168 (.tmp 11) (.tmp 198) rfl X (kv .u32 [(T1 + T2) % 4294967296, ta, tb, tc, (td + T1) % 4294967296, te, tf, tg]).toArray rfl rfl 168 _ E3.out HC8'.out HS8'.out HA8'.out ?_)
          refine ⟨⟨i + 1, by omega, by go_num, E1.out.otherRow (by have := HXV.out; omega) _, E2.out.row (by have := HN.out; have := HXV.out; omega) (by have := HN.out; have := HXV.out; omega) (by have := HN.out; have := HXV.out; omega) (by have := HN.out; have := HXV.out; omega), ?_⟩, by simp [intOf]; omega⟩
          have hR := E3.out.setRow [(T1 + T2) % 4294967296, ta, tb, tc, (td + T1) % 4294967296, te, tf, tg]
          refine hR.as ?_
          rw [HSt.out, ← HTt.out, HT1.out, HT2.out]
          unfold round w32
          simp only [w32_mod]
          rfl
        · have HI : Kp (i = 64) := ⟨by omega⟩
          have hge : 64 ≤ (i : Int) := by omega
          clear hlt hi
          go_wp2_with fail
          have G4 : Kp (Row wr X 168 .u32 (rnds s (sched l 48) 64).list) := by
            have h := G3.out
            rw [HI.out] at h
            exact ⟨h⟩
          have HBk : Kp (block s l = s.add (rnds s (sched l 48) 64)) := ⟨rfl⟩
          clear hge G1 G3
          generalize rnds s (sched l 48) 64 = t at *
          go_loopw [17] (fun c wr => ∃ j : Nat, j ≤ 8 ∧ c = .int .i64 j ∧ Fx A K R (mix s (s.add t) j) w wr ∧ Row wr X 168 .u32 t.list) (fun c _ => 8 - (intOf c).toNat)
          case atStart => exact ⟨0, by omega, rfl, by rw [mix_zero]; exact G2.out, G4.out⟩
          case round =>
            obtain ⟨j, hj, rfl, h1, h2⟩ := hrel
            have P1 := Kp.mk h1
            have P2 := Kp.mk h2
            clear h1 h2 G2 G4
            by_cases hlj : j < 8
            · have cs : wr.cell? ⟨A, j, none⟩ = some (.int .u32 (s.list.getD j 0)) := by
                rw [P1.out.st.cell (by rw [mix_len _ _ _ hj]; exact hlj), mix_get _ _ _ hlj]
              have ct : wr.cell? ⟨X, j, none⟩ = some (.int .u32 (t.list.getD j 0)) := P2.out.cell (by rw [list_len]; exact hlj)
              have HA := Kp.mk (add_get s t j hlj)
              generalize s.list.getD j 0 = y0 at *
              generalize t.list.getD j 0 = y1 at *
              have j8 : (j : Int) < 8 := by omega
              go_wp2_with fail
              go_still_tail 9, (by kernel_rfl)
              clear cs ct
              refine wpl_world (fun w2 => Fx A K R (mix s (s.add t) j) w w2 ∧ Row w2 X 168 .u32 t.list) ⟨P1.out.drew, P2.out.drew⟩ ?_
              rintro w2 ⟨h1, h2⟩
              have Q1 := Kp.mk h1
              have Q2 := Kp.mk h2
              have cw := h1.st.cell (i := j) (by rw [mix_len _ _ _ hj]; exact hlj)
              have fw := h1.st.frozen j
              clear h1 h2
              go_wp2_with fail
              refine ⟨⟨j + 1, by omega, by go_num, ?_, Q2.out.other (by show A ≠ X; have := HN.out; have := HXV.out; omega) _⟩, by simp [intOf]; omega⟩
              have h := Q1.out.setA (i := j) (x := (y0 + y1) % 4294967296) (by have := HN.out; omega) (by have := HN.out; omega)
              rw [mix_set _ _ _ hlj _ HA.out.symm] at h
              exact h
            · have HJ : Kp (j = 8) := ⟨by omega⟩
              have hge : 8 ≤ (j : Int) := by omega
              have HF : Kp (Row wr A 168 .u32 (block s l).list) := by
                have h := P1.out.st
                rw [HJ.out, mix_full, ← HBk.out] at h
                exact ⟨h⟩
              have HC9 := Kp.mk (cells68 (list_len (block s l)))
              have HS9 := Kp.mk (size8 (list_len (block s l)))
              have HR9 := Kp.mk (P1.out.rs.setRow (block s l).list)
              have HB9 := Kp.mk (Below.row P1.out.be (g := R) (by have := HN.out; omega) (kv .u32 (block s l).list).toArray)
              clear hlj hj
              go_wp2_with (first
                | (refine wpList_load_row rfl 168 (.tmp 3) rfl A rfl 168 (kv .u32 (block s l).list).toArray (0, 0) _ HF.out Tryd.underlying168 rfl HC9.out ?_)
                | (refine wpList_store_row rfl 168 (.tmp 6) (.tmp 212) rfl R (kv .u32 (block s l).list).toArray rfl rfl 168 _ P1.out.rs HC9.out HS9.out (kv_all _ _) ?_))
              refine bodyPost_ret (v := .agg (kv .u32 (block s l).list).toArray) ?_ rfl ⟨rfl, by rw [← HAe.out]; exact HB9.out⟩
              exact results_cell_row rfl _ _ R 168 _ (0, 0) _ rfl HR9.out Tryd.underlying168 rfl HC9.out
end Go.Proofs.YtgabjmmmiogfjaaDoor

namespace Go.Proofs.YtgabjmmmiogfjaaDoor
open Go.RowKit

abbrev z68b : Obj := .cells (kv .u32 (fill 8 [])).toArray 168
theorem cells68b {l : List Int} (h : l.length = 8) : (Tryd.prog.info? 168).map (·.size) = some (kv .u32 l).toArray.size := by
  have h1 : (Tryd.prog.info? 168).map (·.size) = some 8 := by kernel_rfl
  rw [h1, kv_size, h]
set_option maxRecDepth 100000 in
set_option maxHeartbeats 1000000 in
theorem first_any (w : World) : Calls Tryd.prog 112 #[] w fun r w' => r = .returned (.agg (kv .u32 first.list).toArray) ∧ Below w.heap.size w w' := by
  have HC := Kp.mk (cells68b (list_len first))
  have HS : Kp ((kv .u32 (fill 8 [])).toArray.size = (kv .u32 first.list).toArray.size) := ⟨by rw [kv_size, kv_size]; rfl⟩
  have HA : Kp ((kv .u32 first.list).toArray.all (·.oneCell') = true) := ⟨kv_all _ _⟩
  have HR : Kp (Row ((w.alloc z68b).setRow w.heap.size (kv .u32 first.list).toArray) w.heap.size 168 .u32 first.list) := ⟨Row.setRow (k := .u32) (l := fill 8 []) (Blk.new w z68b) _⟩
  go_enter Tryd.func112, Tryd.ntmps112
  go_wp2_with (refine wpList_store_row rfl 168 (.tmp 0) (.tmp 1) rfl w.heap.size (kv .u32 first.list).toArray rfl rfl 168 _ (Blk.new w z68b) HC.out HS.out HA.out ?_)
  refine bodyPost_ret (v := .agg (kv .u32 first.list).toArray) ?_ rfl ⟨rfl, Below.row (more (Below.refl _ _) z68b) (Nat.le_refl _) _⟩
  exact results_cell_row rfl _ _ w.heap.size 168 _ (0, 0) _ rfl HR.out Tryd.underlying168 rfl HC.out
set_option maxRecDepth 100000 in
set_option maxHeartbeats 1000000 in
theorem kon_any (w : World) : Calls Tryd.prog 113 #[] w fun r w' => r = .returned (.agg (kv .u32 kon).toArray) ∧ Below w.heap.size w w' := by
  have HC := Kp.mk (cells70 kon_len)
  have HS : Kp ((kv .u32 (fill 64 [])).toArray.size = (kv .u32 kon).toArray.size) := ⟨by rw [kv_size, kv_size, kon_len]; rfl⟩
  have HA : Kp ((kv .u32 kon).toArray.all (·.oneCell') = true) := ⟨kv_all _ _⟩
  have HR : Kp (Row ((w.alloc z70).setRow w.heap.size (kv .u32 kon).toArray) w.heap.size 170 .u32 kon) := ⟨Row.setRow (k := .u32) (l := fill 64 []) (Blk.new w z70) _⟩
  go_enter Tryd.func113, Tryd.ntmps113
  go_wp2_with (refine wpList_store_row rfl 170 (.tmp 0) (.tmp 1) rfl w.heap.size (kv .u32 kon).toArray rfl rfl 170 _ (Blk.new w z70) HC.out HS.out HA.out ?_)
  refine bodyPost_ret (v := .agg (kv .u32 kon).toArray) ?_ rfl ⟨rfl, Below.row (more (Below.refl _ _) z70) (Nat.le_refl _) _⟩
  exact results_cell_row rfl _ _ w.heap.size 170 _ (0, 0) _ rfl HR.out Tryd.underlying170 rfl HC.out
end Go.Proofs.YtgabjmmmiogfjaaDoor

namespace Go.Proofs.YtgabjmmmiogfjaaDoor
open Go.RowKit

theorem still_load_mid {P : Program} {ops : Array Oper} {rest : List Oper} {o : Oper} {a : Act} {w : World} {Q : Act → Prop} (hgd : o.guard = none) (ty : TypeId) (x : Operand) (ho : o.op = .load ty x)
    (b off : Nat) (hx : a.eval x = .pointer (some ⟨b, off, none⟩)) (cs : List Value) (d : TypeDesc) (hc : w.rangeAt b off cs)
    (hu : P.underlying ty = some d) (hd : d.isRow = true) (hi : (P.info? ty).map (·.size) = some cs.length)
    (h : wpStill P ops w Q rest (a.put o.dst (.agg cs.toArray))) : wpStill P ops w Q (o :: rest) a := by
  refine wpStill_step fun K hK => ?_
  have hw : Region.wanted o (yielded ops a.tmps) = true := by simp [Region.wanted, hgd]
  rw [if_pos hw]
  unfold Oper.still execOp
  simp only [ho, hx, Instr.loadAt, Instr.sureAddr, Sem.run_bind, Sem.run_pure, Result.andThen_ok, run_loadVar_mid w b off ty cs d hc hu hd hi]
  exact ⟨rfl, hK _ h⟩
theorem Row.range {w : World} {b : Nat} {t : TypeId} {k : IntKind} {l : List Int} (h : Row w b t k l) : w.rangeAt b 0 (kv k l) := by
  intro j v hv
  rw [Blk.cell h, Nat.zero_add, List.getElem?_toArray]
  exact hv
theorem bytes_word (s : St) (i : Nat) (h : i < 8) : s.bytes.take (4 * (i + 1)) = s.bytes.take (4 * i) ++ be32 (s.list.getD i 0) := by
  match i, h with
  | 0, _ => rfl
  | 1, _ => rfl
  | 2, _ => rfl
  | 3, _ => rfl
  | 4, _ => rfl
  | 5, _ => rfl
  | 6, _ => rfl
  | 7, _ => rfl
/-- What stands in the sum's room behind i words, and t bytes of the next one, the last one first. -/
def wst (s : St) (i t : Nat) : List Int := fill 32 (s.bytes.take (4 * i) ++ (List.replicate (4 - t) 0 ++ (be32 (s.list.getD i 0)).drop (4 - t)))
theorem wst_len (s : St) (i t : Nat) (hi : i < 8) (_ht : t ≤ 4) : (wst s i t).length = 32 := by
  unfold wst
  rw [fill_len]
  simp [bytes_len, be32_len]
  omega
theorem wst_zero (s : St) (i : Nat) (hi : i < 8) : wst s i 0 = fill 32 (s.bytes.take (4 * i)) := by
  unfold wst fill
  have h1 : (s.bytes.take (4 * i)).length = 4 * i := by rw [List.length_take, bytes_len]; omega
  have h2 : (be32 (s.list.getD i 0)).drop (4 - 0) = [] := List.drop_of_length_le (by rw [be32_len]; omega)
  rw [h2, List.append_nil, List.append_assoc]
  congr 1
  rw [List.replicate_append_replicate, List.length_append, h1, List.length_replicate]
  congr 1
  omega
theorem wst_full (s : St) (i : Nat) (hi : i < 8) : wst s i 4 = fill 32 (s.bytes.take (4 * (i + 1))) := by
  rw [bytes_word s i hi]
  rfl
theorem set_mid {P M R : List Int} {n c : Nat} (hP : P.length = n) (hc : c < M.length) (v : Int) : ((P ++ M) ++ R).set (n + c) v = (P ++ M.set c v) ++ R := by
  subst hP
  rw [List.set_append_left _ _ (by rw [List.length_append]; omega), List.set_append_right _ _ (by omega), Nat.add_sub_cancel_left]
/-- A word's room behind t bytes. -/
def wt (x : Int) (t : Nat) : List Int := List.replicate (4 - t) 0 ++ (be32 x).drop (4 - t)
theorem wt_len (x : Int) (t : Nat) (_h : t ≤ 4) : (wt x t).length = 4 := by simp [wt, be32_len]
theorem wt_set (x : Int) (t : Nat) (h : t < 4) : (wt x t).set (3 - t) (x / 256 ^ t % 256) = wt x (t + 1) := by
  match t, h with
  | 0, _ => exact (show [0, 0, 0, x / 1 % 256] = [0, 0, 0, x % 256] by rw [Int.ediv_one])
  | 1, _ => rfl
  | 2, _ => rfl
  | 3, _ => rfl
theorem wst_set (s : St) (i t : Nat) (hi : i < 8) (ht : t < 4) : (wst s i t).set (4 * i + (3 - t)) (s.list.getD i 0 / 256 ^ t % 256) = wst s i (t + 1) := by
  have h1 : (s.bytes.take (4 * i)).length = 4 * i := by rw [List.length_take, bytes_len]; omega
  have e : ∀ t, wst s i t = (s.bytes.take (4 * i) ++ wt (s.list.getD i 0) t) ++ List.replicate (32 - (s.bytes.take (4 * i) ++ wt (s.list.getD i 0) t).length) 0 := fun t => rfl
  rw [e t, e (t + 1), set_mid h1 (by rw [wt_len _ _ (by omega)]; omega), wt_set _ _ ht]
  congr 2
  rw [List.length_append, List.length_append, wt_len _ _ (by omega), wt_len _ _ (by omega)]
theorem blocks_pos (n : Nat) : ∃ m, blocks n = m + 1 := by
  unfold blocks
  split
  · exact ⟨_, rfl⟩
  · exact ⟨n / 64 + 1, rfl⟩
theorem sum_range (l : List Int) (i : Nat) (h : i < 8) : 0 ≤ (sumSt l).list.getD i 0 ∧ (sumSt l).list.getD i 0 < 4294967296 := by
  obtain ⟨m, hm⟩ := blocks_pos l.length
  have e : sumSt l = St.add (absorb (pad l) m) (rnds (absorb (pad l) m) (sched (((pad l).drop (64 * m)).take 64) 48) 64) := by
    unfold sumSt
    rw [hm]
    rfl
  rw [e, add_get _ _ _ h]
  omega
end Go.Proofs.YtgabjmmmiogfjaaDoor

namespace Go.Proofs.YtgabjmmmiogfjaaDoor
open Go.RowKit

theorem info24 : (Tryd.prog.info? 22).map (·.size) = some 32 := by kernel_rfl
theorem cells24 {l : List Int} (h : l.length = 32) : (Tryd.prog.info? 22).map (·.size) = some (kv .u8 l).toArray.size := by rw [info24, kv_size, h]
abbrev z24 : Obj := .cells (kv .u8 (fill 32 [])).toArray 22
set_option maxRecDepth 100000 in
set_option maxHeartbeats 2000000 in
theorem rsum_any (M : Nat) (v : Value) (p : List Int) (w : World) (h : HoldsB w M v p) (hlen : p.length ≤ 140737488351400) :
    Calls Tryd.prog 104 #[v] w fun r w' => r = .returned (.agg (kv .u8 (digest p)).toArray) ∧ Below w.heap.size w w' := by
  have H := Kp.mk h
  have HL := Kp.mk hlen
  have HPb := Kp.mk h.bytes
  clear h hlen
  go_enter Tryd.func104, Tryd.ntmps104
  go_wp2_with fail
  refine calls_world (fun W => Row W w.heap.size 22 .u8 (fill 32 []) ∧ Below w.heap.size w W) ⟨Blk.newAt (w := w) z24 rfl, more (Below.refl _ _) z24⟩ ?_
  rintro w1 ⟨h1, h2⟩
  have H1 := Kp.mk h1
  have H2 := Kp.mk h2
  clear h1 h2
  refine (pad_any M v p w1 (H.out.keep H2.out) HL.out).mono ?_
  rintro r w2 ⟨v1, rfl, ho, hb⟩
  obtain ⟨L, hL⟩ : ∃ L, L = (pad p).length := ⟨_, rfl⟩
  have hpb : Bytes (pad p) := by
    unfold pad
    rw [← tl_full]
    exact HPb.out.append (tl_bytes _ _)
  have hh : HoldsB w2 w2.heap.size v1 (pad p) := HoldsB.ofRow hpb ho
  rw [← hL] at ho
  obtain ⟨a1, c1, rfl⟩ := row_slice ho
  have HP := Kp.mk hh
  have HLe := Kp.mk hL
  have G1 : Kp (Row w2 w.heap.size 22 .u8 (fill 32 [])) := ⟨H1.out.keep hb⟩
  have G2 : Kp (Below w.heap.size w w2) := ⟨H2.out.trans (hb.mono H2.out.size)⟩
  clear ho hb hh hpb hL H1 H2
  go_wp2_with fail
  refine (first_any w2).mono ?_
  rintro r w3 ⟨rfl, hb⟩
  have HP3 := Kp.mk (HP.out.keep hb)
  have F1 := Kp.mk (G1.out.keep hb)
  have F2 : Kp (Below w.heap.size w w3) := ⟨G2.out.trans (hb.mono G2.out.size)⟩
  have HC8 := Kp.mk (cells68 (list_len first))
  have HS8 := Kp.mk (size8 (list_len first))
  clear hb HP G1 G2
  go_wp2_with (refine wpList_store_row rfl 168 (.tmp 4) (.tmp 13) rfl w3.heap.size (kv .u32 first.list).toArray rfl rfl 168 _ (Blk.new w3 z68) HC8.out HS8.out (kv_all _ _) ?_)
  obtain ⟨Hb, hHb⟩ : ∃ Hb, Hb = w3.heap.size := ⟨_, rfl⟩
  rw [← hHb]
  refine calls_world (fun W => Row W Hb 168 .u32 first.list ∧ Row W w.heap.size 22 .u8 (fill 32 []) ∧ Below w.heap.size w W ∧ HoldsX W Hb (.slice a1 L c1) (pad p) ∧ Hb < W.heap.size)
    ⟨Row.setRow (k := .u32) (l := fill 8 []) (Blk.newAt z68 hHb) _, Row.otherRow (F1.out.alloc z68) (by have := F1.out.lt; omega) _, Below.row (more F2.out z68) (by have := F2.out.size; omega) _,
     (HP3.out.apart (more (Below.refl _ _) z68) (by omega)).turn (Turn.row (Turn.same (Blk.newAt z68 hHb)) _), by simp [hHb]⟩ ?_
  rintro w4 ⟨h1, h2, h3, h4, h5⟩
  have hAH : Kp (w.heap.size < Hb) := ⟨by rw [hHb]; exact F1.out.lt⟩
  refine (kon_any w4).mono ?_
  rintro r w5 ⟨rfl, hb⟩
  have E1 := Kp.mk (h1.keep hb)
  have E2 := Kp.mk (h2.keep hb)
  have E3 : Kp (Below w.heap.size w w5) := ⟨h3.trans (hb.mono h3.size)⟩
  have E4 := Kp.mk (h4.keep hb)
  have HC7 := Kp.mk (cells70 kon_len)
  have HS7 : Kp ((kv .u32 (fill 64 [])).toArray.size = (kv .u32 kon).toArray.size) := ⟨by rw [kv_size, kv_size, kon_len]; rfl⟩
  clear h1 h2 h3 h4 h5 hb F1 F2 HP3 hHb
  go_wp2_with (refine wpList_store_row rfl 170 (.tmp 5) (.tmp 14) rfl w5.heap.size (kv .u32 kon).toArray rfl rfl 170 _ (Blk.new w5 z70) HC7.out HS7.out (kv_all _ _) ?_)
  obtain ⟨Kb, hKb⟩ : ∃ Kb, Kb = w5.heap.size := ⟨_, rfl⟩
  obtain ⟨A, hA⟩ : ∃ A, A = w.heap.size := ⟨_, rfl⟩
  have HAe := Kp.mk hA
  rw [← hKb]
  rw [← hA] at E2 E3 hAH ⊢
  obtain ⟨q, hq⟩ : ∃ q, q = blocks p.length := ⟨_, rfl⟩
  have hLq : L = 64 * q := by rw [HLe.out, pad_len, hq]
  have HQ := Kp.mk hq
  have HLq := Kp.mk hLq
  have hz63 : zeros p.length ≤ 63 := by unfold zeros; omega
  have hzb := zeros_blocks p.length
  have hLb : L ≤ 140737488355328 := by rw [hLq, hq, hzb]; have := HL.out; omega
  clear hz63 hzb
  refine wp_world (fun W => Row W Hb 168 .u32 (absorb (pad p) 0).list ∧ Row W Kb 170 .u32 kon ∧ Row W A 22 .u8 (fill 32 []) ∧ HoldsX W Hb (.slice a1 L c1) (pad p) ∧ Below A w W)
    ⟨Row.otherRow (E1.out.alloc _) (by have := E1.out.lt; omega) _, Row.setRow (k := .u32) (l := fill 64 []) (Blk.newAt z70 hKb) _, Row.otherRow (E2.out.alloc _) (by have := E2.out.lt; omega) _,
     E4.out.keep (Below.row (more (Below.refl _ _) z70) (g := Kb) (by rw [hKb]; exact Nat.le_refl _) _), Below.row (E3.out.alloc (by rw [hA]; exact E3.out.size) _) (by have := E3.out.size; omega) _⟩ ?_
  rintro w6 ⟨h1, h2, h3, h4, h5⟩
  have D1 := Kp.mk h1
  have D2 := Kp.mk h2
  have D3 := Kp.mk h3
  have D4 := Kp.mk h4
  have D5 := Kp.mk h5
  have HAK : Kp (A < Kb ∧ Hb < Kb) := ⟨by rw [hKb]; exact ⟨E2.out.lt, E1.out.lt⟩⟩
  clear h1 h2 h3 h4 h5 E1 E2 E3 E4 hKb hq hLq hA
  go_wp2_with fail
  go_loopw [6] (fun c wr => ∃ i n : Nat, i ≤ q ∧ Kp (n = 64 * i) ∧ c = .int .i64 n ∧ Row wr Hb 168 .u32 (absorb (pad p) i).list ∧ Row wr Kb 170 .u32 kon ∧ Row wr A 22 .u8 (fill 32 []) ∧ HoldsX wr Hb (.slice a1 L c1) (pad p) ∧ Below A w wr) (fun c _ => L - (intOf c).toNat)
  case atStart => exact ⟨0, 0, by omega, ⟨rfl⟩, rfl, D1.out, D2.out, D3.out, D4.out, D5.out⟩
  case round =>
    obtain ⟨i, n, hi, Hn, rfl, h1, h2, h3, h4, h5⟩ := hrel
    have G1 := Kp.mk h1
    have G2 := Kp.mk h2
    have G3 := Kp.mk h3
    have G4 := Kp.mk h4
    have G5 := Kp.mk h5
    clear h1 h2 h3 h4 h5 D1 D2 D3 D4 D5
    by_cases hlt : n < L
    · have hiq : i < q := by have := Hn.out; have := HLq.out; omega
      have HIQ := Kp.mk hiq
      obtain ⟨v2, hv2, hh2⟩ := G4.out.h.mid (i := n) (j := n + 64) (by omega) (by rw [← HLe.out]; have := Hn.out; have := HLq.out; omega)
      simp only [show ((n + 64 : Nat) : Int) = (n : Int) + 64 from by omega] at hv2
      have HH2 := Kp.mk hh2
      have HC8b := Kp.mk (show (Tryd.prog.info? 168).map (·.size) = some (kv .u32 (absorb (pad p) i).list).length by rw [List.length_map, list_len]; exact info68')
      have HC7b := Kp.mk (show (Tryd.prog.info? 170).map (·.size) = some (kv .u32 kon).length by rw [List.length_map, kon_len]; exact info70)
      have e64 : IntKind.i64.wrap ((n : Int) + 64) = (n : Int) + 64 := IntWalk.i64_in _ (by omega)
      have hnL : (n : Int) < L := by omega
      clear hh2 hiq hi
      go_wp2_with fail
      refine wp_region_still_tail 7 (by kernel_rfl) (by kernel_rfl) ?_
      simp only [List.take_succ_cons, List.take_zero, List.drop_succ_cons, List.drop_zero]
      refine still_load_mid rfl 168 (.tmp 4) rfl Hb 0 rfl (kv .u32 (absorb (pad p) i).list) _ (Row.range G1.out.drew) Tryd.underlying168 rfl HC8b.out ?_
      iterate 5 still_step
      refine still_load_mid rfl 170 (.tmp 5) rfl Kb 0 rfl (kv .u32 kon) _ (Row.range G2.out.drew) Tryd.underlying170 rfl HC7b.out ?_
      refine wpStill_nil ?_
      clear hv2 e64
      refine wpl_world (fun W => Row W Hb 168 .u32 (absorb (pad p) i).list ∧ Row W Kb 170 .u32 kon ∧ Row W A 22 .u8 (fill 32 []) ∧ HoldsX W Hb (.slice a1 L c1) (pad p) ∧ Below A w W ∧ HoldsB W W.heap.size v2 (((pad p).drop n).take (n + 64 - n)))
        ⟨G1.out.drew, G2.out.drew, G3.out.drew, ⟨G4.out.h.drew, G4.out.x⟩, G5.out.drew, HH2.out.drew⟩ ?_
      rintro w7 ⟨h1, h2, h3, h4, h5, h6⟩
      have F1 := Kp.mk h1
      have F2 := Kp.mk h2
      have F3 := Kp.mk h3
      have F4 := Kp.mk h4
      have F5 := Kp.mk h5
      have F6 := Kp.mk h6
      clear h1 h2 h3 h4 h5 h6 G1 G2 G3 G4 G5
      go_wp2_with fail
      refine (rblock_any _ (absorb (pad p) i) _ _ w7 F6.out (by rw [List.length_take, List.length_drop, ← HLe.out]; have := Hn.out; have := HLq.out; have := HIQ.out; omega)).mono ?_
      rintro r w8 ⟨rfl, hb⟩
      have HBk : Kp (block (absorb (pad p) i) (((pad p).drop n).take (n + 64 - n)) = absorb (pad p) (i + 1)) := ⟨by rw [Nat.add_sub_cancel_left, Hn.out]; rfl⟩
      rw [HBk.out]
      have P1 := Kp.mk (F1.out.keep hb)
      have P2 := Kp.mk (F2.out.keep hb)
      have P3 := Kp.mk (F3.out.keep hb)
      have P4 := Kp.mk (F4.out.keep hb)
      have P5 : Kp (Below A w w8) := ⟨F5.out.trans (hb.mono (Nat.le_of_lt F3.out.lt))⟩
      have HC9 := Kp.mk (cells68 (list_len (absorb (pad p) (i + 1))))
      have HS9 : Kp ((kv .u32 (absorb (pad p) i).list).toArray.size = (kv .u32 (absorb (pad p) (i + 1)).list).toArray.size) := ⟨by rw [kv_size, kv_size]; rfl⟩
      clear hb
      go_wp2_with (refine wpList_store_row rfl 168 (.tmp 4) (.tmp 28) rfl Hb (kv .u32 (absorb (pad p) (i + 1)).list).toArray rfl rfl 168 _ P1.out HC9.out HS9.out (kv_all _ _) ?_)
      refine ⟨⟨i + 1, n + 64, ?_, ⟨?_⟩, by go_num, P1.out.setRow _, P2.out.otherRow (by have := HAK.out; omega) _, P3.out.otherRow (by have := hAH.out; omega) _, P4.out.turn (Turn.row (Turn.same P1.out) _), Below.row P5.out (by have := hAH.out; omega) _⟩, by simp [intOf]; omega⟩
      · have := HIQ.out; omega
      · have := Hn.out; omega
    · have HI : Kp (i = q) := ⟨by have := Hn.out; have := HLq.out; omega⟩
      have hge : (L : Int) ≤ n := by omega
      have HSum : Kp (Row wr Hb 168 .u32 (sumSt p).list) := by
        have h := G1.out
        rw [HI.out, HQ.out] at h
        exact ⟨h⟩
      have HR := Kp.mk (sum_range p)
      have HDg : Kp ((sumSt p).bytes = digest p) := ⟨rfl⟩
      have hnL : ¬ ((n : Int) < L) := by omega
      clear hlt hi G1 G2 G4
      obtain ⟨D, hD⟩ : ∃ D, D = wr.heap.size := ⟨_, rfl⟩
      generalize sumSt p = S at *
      go_wp2_with fail
      rw [← hD]
      refine wp_world (fun W => Row W Hb 168 .u32 S.list ∧ Row W A 22 .u8 (fill 32 []) ∧ Below A w W ∧ Row W D 22 .u8 (fill 32 (S.bytes.take (4 * 0)))) ⟨HSum.out.alloc _, G3.out.alloc _, G5.out.alloc (Nat.le_of_lt G3.out.lt) _, Blk.newAt z24 hD⟩ ?_
      have HAD : Kp (A < D ∧ Hb < D) := ⟨by rw [hD]; exact ⟨G3.out.lt, HSum.out.lt⟩⟩
      rintro w9 ⟨h1, h2, h3, h4⟩
      have D1 := Kp.mk h1
      have D2 := Kp.mk h2
      have D3 := Kp.mk h3
      have D4 := Kp.mk h4
      clear h1 h2 h3 h4 hD hge hnL HSum G3 G5
      go_wp2_with fail
      go_loopw [8] (fun c wr => ∃ i : Nat, i ≤ 8 ∧ c = .int .i64 i ∧ Row wr Hb 168 .u32 S.list ∧ Row wr A 22 .u8 (fill 32 []) ∧ Below A w wr ∧ Row wr D 22 .u8 (fill 32 (S.bytes.take (4 * i)))) (fun c _ => 8 - (intOf c).toNat)
      case atStart => exact ⟨0, by omega, rfl, D1.out, D2.out, D3.out, D4.out⟩
      case round =>
        obtain ⟨k, hk, rfl, h1, h2, h3, h4⟩ := hrel
        have G1 := Kp.mk h1
        have G2 := Kp.mk h2
        have G3 := Kp.mk h3
        have G4 := Kp.mk h4
        clear h1 h2 h3 h4 D1 D2 D3 D4
        by_cases hlk : k < 8
        · have ch := G1.out.cell (i := k) (by rw [list_len]; exact hlk)
          have hx := HR.out k hlk
          generalize hX : S.list.getD k 0 = X at *
          have HX := Kp.mk hX
          obtain ⟨hx0, hx1⟩ := hx
          have k8 : (k : Int) < 8 := by omega
          clear hX
          go_wp2_with fail
          clear ch
          go_loopw [9, 10] (fun xq c wr => ∃ t : Nat, t ≤ 4 ∧ c = .int .i64 ((3 : Int) - t) ∧ xq = .int .u32 (X / 256 ^ t) ∧ Row wr Hb 168 .u32 S.list ∧ Row wr A 22 .u8 (fill 32 []) ∧ Below A w wr ∧ Row wr D 22 .u8 (wst S k t)) (fun _ c _ => (intOf c + 1).toNat)
          case atStart => exact ⟨0, by omega, rfl, by simp, G1.out, G2.out, G3.out, by rw [wst_zero S k hlk]; exact G4.out⟩
          case round =>
            obtain ⟨t, ht, rfl, rfl, h1, h2, h3, h4⟩ := hrel
            have F1 := Kp.mk h1
            have F2 := Kp.mk h2
            have F3 := Kp.mk h3
            have F4 := Kp.mk h4
            clear h1 h2 h3 h4 G1 G2 G3 G4
            have q0 : 0 ≤ X / 256 ^ t := Int.ediv_nonneg hx0 (Int.pow_nonneg (by decide))
            have q1 : X / 256 ^ t < 4294967296 := Int.lt_of_le_of_lt (Int.ediv_le_self _ hx0) hx1
            have HQd : Kp (X / 256 ^ t / 256 = X / 256 ^ (t + 1)) := ⟨by rw [Int.ediv_ediv_of_nonneg (Int.pow_nonneg (by decide)), Int.pow_succ]⟩
            have HS := fun h => Kp.mk (wst_set S k t hlk h)
            rw [HX.out] at HS
            generalize hQ : X / 256 ^ t = Q at *
            by_cases hlt : t < 4
            · have HS2 := HS hlt
              clear HS
              obtain ⟨u, hu⟩ : ∃ u : Nat, (3 : Int) - t = u := ⟨3 - t, by omega⟩
              have HU : Kp (u = 3 - t ∧ u < 4) := ⟨by omega⟩
              rw [hu]
              have u4 : u < 4 := by omega
              have cw := F4.out.cell (i := 4 * k + u) (by rw [wst_len S k t hlk ht]; omega)
              have fw := F4.out.frozen (4 * k + u)
              have HHu := Kp.mk hu
              clear hu hQ
              go_wp2_with fail
              refine ⟨⟨t + 1, by omega, ?_, ?_, F1.out.other (by show D ≠ Hb; have := HAD.out; omega) _, F2.out.other (by show D ≠ A; have := HAD.out; omega) _, F3.out.setCell (by show A ≤ D; have := HAD.out; omega) _, ?_⟩, by simp [intOf]⟩
              · have := HHu.out
                congr 1
                omega
              · rw [HQd.out]
              · refine (F4.out.set (4 * k + u) _).as ?_
                rw [HU.out.1]
                exact HS2.out
            · have HT : Kp (t = 4) := ⟨by omega⟩
              obtain ⟨u, hu⟩ : ∃ u : Int, (3 : Int) - t = u := ⟨_, rfl⟩
              rw [hu]
              have u0 : u < 0 := by omega
              have HF : Kp (Row wr D 22 .u8 (fill 32 (S.bytes.take (4 * (k + 1))))) := by
                have h := F4.out
                rw [HT.out, wst_full S k hlk] at h
                exact ⟨h⟩
              clear HS hu hQ hlt ht F4
              go_wp2_with fail
              exact ⟨⟨k + 1, by omega, by go_num, F1.out, F2.out, F3.out, HF.out⟩, by simp [intOf]; omega⟩
        · have HK8 : Kp (k = 8) := ⟨by omega⟩
          have hge : 8 ≤ (k : Int) := by omega
          have HF : Kp (Row wr D 22 .u8 (digest p)) := by
            have h := G4.out
            rw [HK8.out, List.take_of_length_le (by rw [bytes_len]; omega), fill_full (bytes_len S), HDg.out] at h
            exact ⟨h⟩
          have HC24 := Kp.mk (cells24 (digest_len p))
          have HZ24 : Kp ((kv .u8 (fill 32 [])).toArray.size = (kv .u8 (digest p)).toArray.size) := ⟨by rw [kv_size, kv_size, digest_len]; rfl⟩
          have HR24 := Kp.mk (G2.out.setRow (digest p))
          have HB24 := Kp.mk (Below.row G3.out (g := A) (Nat.le_refl _) (kv .u8 (digest p)).toArray)
          clear hlk hk
          go_wp2_with (first
            | (refine wpList_load_row rfl 22 (.tmp 7) rfl D rfl 22 (kv .u8 (digest p)).toArray (0, 0) _ HF.out Tryd.underlying22 rfl HC24.out ?_)
            | (refine wpList_store_row rfl 22 (.tmp 2) (.tmp 50) rfl A (kv .u8 (digest p)).toArray rfl rfl 22 _ G2.out HC24.out HZ24.out (kv_all _ _) ?_))
          refine bodyPost_ret (v := .agg (kv .u8 (digest p)).toArray) ?_ rfl ⟨rfl, by rw [← HAe.out]; exact HB24.out⟩
          exact results_cell_row rfl _ _ A 22 _ (0, 0) _ rfl HR24.out Tryd.underlying22 rfl HC24.out
end Go.Proofs.YtgabjmmmiogfjaaDoor

namespace Go.Proofs.YtgabjmmmiogfjaaDoor
open Go.RowKit

/-- append to a row of the call's own, and in which block what comes of it lies. -/
theorem wpList_append_own2 {P : Program} {w : World} {ops : Array Oper} {rest : List Oper} {o : Oper} {a : Act} {Q : Exit → Act → World → Prop} (hgd : o.guard = none) (s x : Operand) (t : TypeId)
    (ho : o.op = .call { callee := .builtin .append, args := #[s, x], argTypes := #[t, t] })
    (base : Nat) (e : TypeId) (i : TypeInfo) (z : Value) (size bytes : Nat) (ht : P.underlying t = some (.slice e)) (hi : P.info? e = some i) (hz : i.zero = some z)
    (hsize : i.size = size) (hby : i.bytes = bytes) (hzs : z.cells.size = size) (hsz : 0 < size)
    (v : Value) (n : Nat) (xs : List Value) (hs : a.eval s = v) (hown : w.ownsRow base e size v n xs)
    (ad : Addr) (m c : Nat) (news : List Value) (hx : a.eval x = .slice (some ad) m c) (hl : news.length = m * size) (hnews : ∀ j u, news[j]? = some u → w.cell? (ad.add j) = some u) (h1 : ∀ u ∈ news, u.oneCell' = true)
    (h63 : n + m ≤ maxLen) (hbytes : (n + m) * bytes ≤ 140737488355328) (hbase : base ≤ w.heap.size)
    (h : ∀ v' w', w'.ownsRow base e size v' (n + m) (xs ++ news) → w.grownBy w' v.ownBlock → (∀ k, v'.ownBlock = some k → v.ownBlock = some k ∨ w.heap.size ≤ k) → wpList P ops Q rest (a.put o.dst v') w') : wpList P ops Q (o :: rest) a w := by
  have hv := hown.2
  rcases hv with ⟨hv, h0⟩ | ⟨g, cap, cur, hv, hg, hh, hn, hc, hsz2, htk⟩
  · subst h0
    have hxs : xs = [] := List.eq_nil_of_length_eq_zero (by simpa using hown.1)
    subst hxs
    refine wpList_plain hgd fun K hK => ?_
    rw [hv] at hs
    obtain ⟨v', w', hrun, r1, r2, _⟩ := run_append_own (P := P) w w.heap.size t o.type e i z size bytes ht hi hz hsize hby hzs hsz (.slice none 0 0) 0 [] (World.ownsRow_nil w _ e size) ad m c news hl hnews h1 h63 hbytes (Nat.le_refl _)
    unfold Oper.wp
    simp [execOp, ho, resolve, invoke, builtin, hs, hx, hrun, Result.andThen]
    refine hK _ _ (h v' w' (ownsRow_base r1 hbase) (by rw [hv]; exact r2) fun k hk => .inr (r1.lt k hk).1)
  · subst hv
    by_cases hroom : n + m ≤ cap
    · refine wpList_append_fits w hgd s x t ho base e i size ht hi hsize g n cap xs hs hown ad m c news hx hl hnews h1 hroom fun w' h2 h3 => ?_
      exact h _ w' h2 h3 fun k hk => .inl hk
    · refine wpList_append_grows w hgd s x t ho e i z size bytes ht hi hz hsize hby hzs hsz (some ⟨g, 0, none⟩) n cap xs hs (fun e => by cases e) hown.1 (fun b hb => by cases hb; exact hown.cells rfl) ad m c news hx hl hnews h1 (by omega) h63 hbytes fun v' w' h2 h3 => ?_
      exact h v' w' (ownsRow_base h2 hbase) ⟨h3.os, h3.tape, h3.output, h3.size, fun k hk _ => h3.block k hk (by simp)⟩ fun k hk => .inr (h2.lt k hk).1

/-- append of bytes that stand somewhere, to a row of the call's own, and in which block what comes of it lies. -/
theorem wpList_append_holds2 {w : World} {ops : Array Oper} {rest : List Oper} {o : Oper} {a : Act} {Q : Exit → Act → World → Prop} (hgd : o.guard = none) (s x : Operand)
    (ho : o.op = .call { callee := .builtin .append, args := #[s, x], argTypes := #[24, 24] })
    (base : Nat) (v : Value) (n : Nat) (xs : List Value) (hs : a.eval s = v) (hown : w.ownsRow base 5 1 v n xs)
    (M : Nat) (u : Value) (p : List Int) (hx : a.eval x = u) (hp : HoldsB w M u p) (h63 : n + p.length ≤ 140737488355328) (hbase : base ≤ w.heap.size)
    (h : ∀ v' w', w'.ownsRow base 5 1 v' (n + p.length) (xs ++ bv p) → w.grownBy w' v.ownBlock → (∀ k, v'.ownBlock = some k → v.ownBlock = some k ∨ w.heap.size ≤ k) → wpList Tryd.prog ops Q rest (a.put o.dst v') w') : wpList Tryd.prog ops Q (o :: rest) a w := by
  obtain ⟨i0, hi, hz0, hz1, hz2⟩ := info_parts info5
  obtain ⟨ad, m, cap, rfl, hm⟩ := hp.slice
  cases ad with
  | none =>
    obtain ⟨a', cap', h1, h2, h3, h4, h5, h6, h7⟩ := hp
    simp only [Value.slice.injEq] at h1
    have hc := h4 h1.1.symm
    have hl : p = [] := List.length_eq_zero_iff.1 (by omega)
    subst hl
    have hx' : a.eval x = .slice none 0 0 := by rw [hx]; simp only [Value.slice.injEq, true_and]; exact ⟨by simpa using hm, by omega⟩
    exact wpList_append_own_none hgd s x 24 ho base 5 i0 1 Tryd.underlying24 hi v n xs hs hown hx' (h v w (by simpa using hown) ⟨rfl, rfl, rfl, Nat.le_refl _, fun _ _ _ => rfl⟩ fun k hk => .inl hk)
  | some ad =>
    refine wpList_append_own2 (w := w) hgd s x 24 ho base 5 i0 (.int .u8 0) 1 1 Tryd.underlying24 hi hz0 hz1 hz2 rfl (by decide) v n xs hs hown ad m cap (bv p) hx (by rw [bv_len]; omega) hp.news (bv_one _) (by unfold maxLen; omega) (by omega) hbase fun v' w' h1 h2 h3 => ?_
    rw [hm] at h1
    exact h v' w' h1 h2 h3
theorem over_succ {l : List Int} {j : Nat} (h : j < l.length) (x : Int) : over (l.take (j + 1)) x = over (l.take j) x ++ [bits .xor .u8 (l.getD j 0) x] := by
  rw [take_succ_get h]
  unfold over
  rw [List.map_append]
  rfl
/-- Two rows of the call's own, in no one block. -/
structure Twin (w : World) (A : Nat) (v u : Value) (n m : Nat) (l k : List Int) : Prop where
  one : w.ownsRow A 5 1 v n (bv l)
  two : w.ownsRow A 5 1 u m (bv k)
  off : ∀ g, v.ownBlock = some g → u.ownBlock ≠ some g
theorem Twin.swap {w : World} {A : Nat} {v u : Value} {n m : Nat} {l k : List Int} (h : Twin w A v u n m l k) : Twin w A u v m n k l := ⟨h.two, h.one, fun g e1 e2 => h.off g e2 e1⟩
theorem Twin.alloc {w : World} {A : Nat} {v u : Value} {n m : Nat} {l k : List Int} (h : Twin w A v u n m l k) (o : Obj) : Twin (w.alloc o) A v u n m l k := ⟨h.one.alloc o, h.two.alloc o, h.off⟩
theorem Twin.step {w w' : World} {A : Nat} {v u v' : Value} {n m : Nat} {l k : List Int} {p : List Int} (h : Twin w A v u n m l k) (h1 : w'.ownsRow A 5 1 v' (n + p.length) (bv l ++ bv p)) (h2 : w.grownBy w' v.ownBlock)
    (h3 : ∀ g, v'.ownBlock = some g → v.ownBlock = some g ∨ w.heap.size ≤ g) : Twin w' A v' u (n + p.length) m (l ++ p) k := by
  refine ⟨by rw [show bv (l ++ p) = bv l ++ bv p by simp]; exact h1, ?_, fun g hg hu => ?_⟩
  · refine h.two.kept (row := v.ownBlock) h2 ?_
    by_cases hu : u.ownBlock = none
    · exact Or.inl hu
    · obtain ⟨g, hg⟩ := Option.ne_none_iff_exists'.1 hu
      exact Or.inr (fun e => h.off g (by rw [← e]; exact hg) hg)
  · rcases h3 g hg with h4 | h4
    · exact h.off g h4 hu
    · have := (h.two.lt g hu).2
      omega
end Go.Proofs.YtgabjmmmiogfjaaDoor
