/-
  The document's Block.
-/
import Derived.Test.YtpljjmdkagbjpaaDoorRefP
import Derived.Deep.RegionWith
namespace Go.Proofs.YtpljjmdkagbjpaaDoor
open Go.RowKit

/-- What stays through the document's Block: the state, the constants, the result's room; nothing below A turns. -/
structure Fx (A K R : Nat) (sl : List Int) (w wr : World) : Prop where
  st : Row wr A 142 .u32 sl
  kn : Row wr K 147 .u32 kon
  rs : Row wr R 142 .u32 (fill 8 [])
  be : Below A w wr
theorem Fx.set {A K R b i : Nat} {v : Value} {sl : List Int} {w wr : World} (h : Fx A K R sl w wr) (h1 : b ≠ A) (h2 : b ≠ K) (h3 : b ≠ R) (h4 : A ≤ b) : Fx A K R sl w (wr.setCell ⟨b, i, none⟩ v) :=
  ⟨h.st.other (by exact h1) _, h.kn.other (by exact h2) _, h.rs.other (by exact h3) _, h.be.setCell (by exact h4) _⟩
theorem Fx.row {A K R b : Nat} {cs : Array Value} {sl : List Int} {w wr : World} (h : Fx A K R sl w wr) (h1 : b ≠ A) (h2 : b ≠ K) (h3 : b ≠ R) (h4 : A ≤ b) : Fx A K R sl w (wr.setRow b cs) :=
  ⟨h.st.otherRow (Ne.symm h1) _, h.kn.otherRow (Ne.symm h2) _, h.rs.otherRow (Ne.symm h3) _, Below.row h.be h4 _⟩
theorem Fx.drewN {A K R : Nat} {sl : List Int} {w wr : World} (h : Fx A K R sl w wr) (n : Nat) : Fx A K R sl w (wr.drewN n) := ⟨h.st, h.kn, h.rs, below_drewN h.be n⟩
theorem Fx.drew {A K R : Nat} {sl : List Int} {w wr : World} (h : Fx A K R sl w wr) : Fx A K R sl w wr.drew := ⟨h.st, h.kn, h.rs, h.be.drew⟩
theorem Fx.alloc {A K R : Nat} {sl : List Int} {w wr : World} (h : Fx A K R sl w wr) (o : Obj) : Fx A K R sl w (wr.alloc o) := ⟨h.st.alloc _, h.kn.alloc _, h.rs.alloc _, h.be.alloc (Nat.le_of_lt h.st.lt) _⟩
theorem info68' : (Tryd.prog.info? 142).map (·.size) = some 8 := by kernel_rfl
theorem cells68 {l : List Int} (h : l.length = 8) : (Tryd.prog.info? 142).map (·.size) = some (kv .u32 l).toArray.size := by rw [info68', kv_size, h]
abbrev z68 : Obj := .cells (kv .u32 (fill 8 [])).toArray 142
theorem size8 {l : List Int} (h : l.length = 8) : (kv .u32 (fill 8 [])).toArray.size = (kv .u32 l).toArray.size := by rw [kv_size, kv_size, h]; rfl
theorem step1_max (t : St) (kk ww T : Int) (h : (((t.h + bits BinOp.xor IntKind.u32 (bits BinOp.xor IntKind.u32 (rot t.e 6) (rot t.e 11)) (rot t.e 25) + bits BinOp.xor IntKind.u32 (bits BinOp.and IntKind.u32 t.e t.f)
    (bits BinOp.and IntKind.u32 (bits BinOp.xor IntKind.u32 IntKind.u32.max t.e) t.g) + kk) % 4294967296 + ww) % 4294967296 = T)) : T = step1 t kk ww := step1_eq t kk ww T h
theorem Fx.setA {A K R i : Nat} {x : Int} {sl : List Int} {w wr : World} (h : Fx A K R sl w wr) (h1 : A ≠ K) (h2 : A ≠ R) : Fx A K R (sl.set i x) w (wr.setCell ⟨A, i, none⟩ (.int .u32 x)) :=
  ⟨h.st.set i x, h.kn.other (by exact h1) _, h.rs.other (by exact h2) _, h.be.setCell (Nat.le_refl _) _⟩
theorem word_add (x0 x1 x2 x3 : Int) (_h0 : 0 ≤ x0 ∧ x0 ≤ 255) (_h1 : 0 ≤ x1 ∧ x1 ≤ 255) (_h2 : 0 ≤ x2 ∧ x2 ≤ 255) (_h3 : 0 ≤ x3 ∧ x3 ≤ 255) : x0 * 16777216 + x1 * 65536 + x2 * 256 + x3 = ((x0 * 256 + x1) * 256 + x2) * 256 + x3 := by omega
set_option maxRecDepth 100000 in
set_option maxHeartbeats 2000000 in
theorem rblock_any (M : Nat) (s : St) (v : Value) (l : List Int) (w : World) (h : HoldsB w M v l) (hl : l.length = 64) :
    Calls Tryd.prog 93 #[.agg (kv .u32 s.list).toArray, v, .agg (kv .u32 kon).toArray] w fun r w' => r = .returned (.agg (kv .u32 (block s l).list).toArray) ∧ Below w.heap.size w w' := by
  obtain ⟨b, off, cap, rfl, _, _, _, hbw, hcell⟩ := h.open (by omega)
  rw [hl]
  have HCell : Kp (∀ i, i < 64 → w.cell? ⟨b, off + i, none⟩ = some (.int .u8 (l.getD i 0))) := ⟨fun i hi => hcell i (by omega)⟩
  have HBy : Kp (∀ i, i < 64 → 0 ≤ l.getD i 0 ∧ l.getD i 0 ≤ 255) := ⟨fun i hi => h.bytes.at (by omega)⟩
  have HBw := Kp.mk hbw
  clear hcell hl h hbw
  go_enter Tryd.func93, Tryd.ntmps93
  go_wp2_with fail
  refine wp_world (fun wr => Row wr (w.heap.size + 1 + 1 + 1) 147 .u32 (fill 64 ((sched l 48).take 0)) ∧ Fx w.heap.size (w.heap.size + 1) (w.heap.size + 1 + 1) s.list w wr)
    ⟨Blk.newAt _ (by simp), ⟨Blk.old (Blk.old (Blk.old (Blk.newAt _ rfl) _) _) _, Blk.old (Blk.old (Blk.newAt _ (by simp)) _) _, Blk.old (Blk.newAt _ (by simp)) _, more (more (more (more (Below.refl _ _) _) _) _) _⟩⟩ ?_
  obtain ⟨A, hA⟩ : ∃ A, A = w.heap.size := ⟨_, rfl⟩
  have HBA : Kp (b < A) := ⟨by have := HBw.out; omega⟩
  rw [← hA]
  have HAe := Kp.mk hA
  generalize hV : A + 1 + 1 + 1 = V
  generalize hR : A + 1 + 1 = R
  generalize hK : A + 1 = K
  have HN : Kp (K = A + 1 ∧ R = A + 2 ∧ V = A + 3) := ⟨by omega⟩
  clear hV hR hK hA
  rintro w1 ⟨h1, h2⟩
  have H1 := Kp.mk h1
  have H2 := Kp.mk h2
  clear h1 h2
  go_loopw [8] (fun c wr => ∃ k : Nat, k ≤ 64 ∧ c = .int .i64 k ∧ Row wr V 147 .u32 (fill 64 ((sched l 48).take k)) ∧ Fx A K R s.list w wr) (fun c _ => 64 - (intOf c).toNat)
  case atStart => exact ⟨0, by omega, rfl, H1.out, H2.out⟩
  case round =>
    obtain ⟨k, hk, rfl, h1, h2⟩ := hrel
    have G1 := Kp.mk h1
    have G2 := Kp.mk h2
    clear h1 h2 H1 H2
    by_cases hlt : k < 64
    · have HLt : Kp (((sched l 48).take k).length = k) := ⟨by rw [List.length_take, sched_len]; omega⟩
      have HSt := Kp.mk (sched_step l k hlt)
      by_cases h16 : k < 16
      · have HW := Kp.mk (sched_low l k h16)
        have cell : ∀ i, i < 64 → wr.cell? ⟨b, off + i, none⟩ = some (.int .u8 (l.getD i 0)) := fun i hi =>
          (World.cell?_of_block (w := w) (a := ⟨b, off + i, none⟩) (G2.out.be.block b HBA.out)).trans (HCell.out i hi)
        have c0 := cell (4 * k) (by omega)
        have c1 := cell (4 * k + 1) (by omega)
        have c2 := cell (4 * k + 2) (by omega)
        have c3 := cell (4 * k + 3) (by omega)
        have r0 := HBy.out (4 * k) (by omega)
        have r1 := HBy.out (4 * k + 1) (by omega)
        have r2 := HBy.out (4 * k + 2) (by omega)
        have r3 := HBy.out (4 * k + 3) (by omega)
        have HX : Kp (word l k = ((l.getD (4 * k) 0 * 256 + l.getD (4 * k + 1) 0) * 256 + l.getD (4 * k + 2) 0) * 256 + l.getD (4 * k + 3) 0) := ⟨rfl⟩
        clear cell
        generalize l.getD (4 * k) 0 = x0 at *
        generalize l.getD (4 * k + 1) 0 = x1 at *
        generalize l.getD (4 * k + 2) 0 = x2 at *
        generalize l.getD (4 * k + 3) 0 = x3 at *
        rw [← word_add x0 x1 x2 x3 r0 r1 r2 r3] at HX
        go_wp2_with fail
        have k64 : (k : Int) < 64 := by omega
        have a0 : 4 * (k : Int) < 64 := by omega
        have a1 : 4 * (k : Int) + 1 < 64 := by omega
        have a2 : 4 * (k : Int) + 2 < 64 := by omega
        have a3 : 4 * (k : Int) + 3 < 64 := by omega
        have p0 : 0 ≤ 4 * (k : Int) := by omega
        have p1 : 0 ≤ 4 * (k : Int) + 1 := by omega
        have p2 : 0 ≤ 4 * (k : Int) + 2 := by omega
        have p3 : 0 ≤ 4 * (k : Int) + 3 := by omega
        have n0 : (4 * (k : Int)).toNat = 4 * k := by omega
        have n1 : (4 * (k : Int) + 1).toNat = 4 * k + 1 := by omega
        have n2 : (4 * (k : Int) + 2).toNat = 4 * k + 2 := by omega
        have n3 : (4 * (k : Int) + 3).toNat = 4 * k + 3 := by omega
        have e0 : IntKind.i64.wrap (4 * (k : Int)) = 4 * (k : Int) := IntWalk.i64_in _ (by omega)
        have e1 : IntKind.i64.wrap (4 * (k : Int) + 1) = 4 * (k : Int) + 1 := IntWalk.i64_in _ (by omega)
        have e2 : IntKind.i64.wrap (4 * (k : Int) + 2) = 4 * (k : Int) + 2 := IntWalk.i64_in _ (by omega)
        have e3 : IntKind.i64.wrap (4 * (k : Int) + 3) = 4 * (k : Int) + 3 := IntWalk.i64_in _ (by omega)
        go_still_tail 35, (by kernel_rfl)
        clear k64 a0 a1 a2 a3 p0 p1 p2 p3 n0 n1 n2 n3 e0 e1 e2 e3 c0 c1 c2 c3
        refine wpl_world (fun w2 => Row w2 V 147 .u32 (fill 64 ((sched l 48).take k)) ∧ Fx A K R s.list w w2) ⟨G1.out.drew, G2.out.drew⟩ ?_
        rintro w2 ⟨h1, h2⟩
        have F1 := Kp.mk h1
        have F2 := Kp.mk h2
        have cw := h1.cell (i := k) (by rw [fill_len (by rw [HLt.out]; omega)]; omega)
        have fw := h1.frozen k
        clear h1 h2
        go_wp2_with fail
        refine ⟨⟨k + 1, by omega, by go_num, ?_, F2.out.set (by have := HN.out; omega) (by have := HN.out; omega) (by have := HN.out; omega) (by have := HN.out; omega)⟩, by simp [intOf]; omega⟩
        refine (F1.out.set k _).as ?_
        have h3 := fill_set (n := 64) (l := (sched l 48).take k) (by rw [HLt.out]; exact hlt) (word l k)
        rw [HLt.out] at h3
        rw [HSt.out, HW.out, ← h3, HX.out]
      · have h16' : 16 ≤ k := by omega
        have HW := Kp.mk (sched_high l k h16' hlt)
        have cell : ∀ i, i < k → wr.cell? ⟨V, i, none⟩ = some (.int .u32 ((sched l 48).getD i 0)) := fun i hi => by
          rw [G1.out.cell (i := i) (by rw [fill_len (by rw [HLt.out]; omega)]; omega), fill_get (by rw [HLt.out]; exact hi), take_getD hi]
        have c2 := cell (k - 2) (by omega)
        have c7 := cell (k - 7) (by omega)
        have c15 := cell (k - 15) (by omega)
        have c16 := cell (k - 16) (by omega)
        clear cell
        generalize (sched l 48).getD (k - 2) 0 = y2 at *
        generalize (sched l 48).getD (k - 7) 0 = y7 at *
        generalize (sched l 48).getD (k - 15) 0 = y15 at *
        generalize (sched l 48).getD (k - 16) 0 = y16 at *
        have t16 : ¬ ((k : Int) < 16) := by omega
        have k16 : 16 ≤ (k : Int) := by omega
        have k64 : (k : Int) < 64 := by omega
        have a2 : (k : Int) - 2 < 64 := by omega
        have a7 : (k : Int) - 7 < 64 := by omega
        have a15 : (k : Int) - 15 < 64 := by omega
        have a16 : (k : Int) - 16 < 64 := by omega
        have n2 : ((k : Int) - 2).toNat = k - 2 := by omega
        have n7 : ((k : Int) - 7).toNat = k - 7 := by omega
        have n15 : ((k : Int) - 15).toNat = k - 15 := by omega
        have n16 : ((k : Int) - 16).toNat = k - 16 := by omega
        have p2 : 0 ≤ (k : Int) - 2 := by omega
        have p7 : 0 ≤ (k : Int) - 7 := by omega
        have p15 : 0 ≤ (k : Int) - 15 := by omega
        have p16 : 0 ≤ (k : Int) - 16 := by omega
        have e2 : IntKind.i64.wrap ((k : Int) - 2) = (k : Int) - 2 := IntWalk.i64_in _ (by omega)
        have e7 : IntKind.i64.wrap ((k : Int) - 7) = (k : Int) - 7 := IntWalk.i64_in _ (by omega)
        have e15 : IntKind.i64.wrap ((k : Int) - 15) = (k : Int) - 15 := IntWalk.i64_in _ (by omega)
        have e16 : IntKind.i64.wrap ((k : Int) - 16) = (k : Int) - 16 := IntWalk.i64_in _ (by omega)
        clear h16 h16' hlt
        go_wp2_with fail
        go_quiet ((first
          | (go_at_call_of 102 (Value.int IntKind.u64 7); with_reducible exact Calls.quiet_of_same (rotrS y15 7 7 _ rfl (by decide) (by decide)))
          | (go_at_call_of 102 (Value.int IntKind.u64 18); with_reducible exact Calls.quiet_of_same (rotrS y15 18 18 _ rfl (by decide) (by decide)))))
        have HA := Kp.mk (show bits .xor .u32 (bits .xor .u32 (rot y15 7) (rot y15 18)) (y15 / 8) = sm0 y15 from rfl)
        rw [HA.out]
        generalize sm0 y15 = s0 at HW
        have F1 := Kp.mk (G1.out.drewN nq)
        have F2 := Kp.mk (G2.out.drewN nq)
        have d2 : (wr.drewN nq).cell? ⟨V, k - 2, none⟩ = some (.int .u32 y2) := c2
        have d7 : (wr.drewN nq).cell? ⟨V, k - 7, none⟩ = some (.int .u32 y7) := c7
        have d16 : (wr.drewN nq).cell? ⟨V, k - 16, none⟩ = some (.int .u32 y16) := c16
        clear c2 c7 c15 c16 G1 G2
        generalize wr.drewN nq = w2 at *
        go_wp2_with fail
        go_quiet ((first
          | (go_at_call_of 102 (Value.int IntKind.u64 17); with_reducible exact Calls.quiet_of_same (rotrS y2 17 17 _ rfl (by decide) (by decide)))
          | (go_at_call_of 102 (Value.int IntKind.u64 19); with_reducible exact Calls.quiet_of_same (rotrS y2 19 19 _ rfl (by decide) (by decide)))))
        have HA2 := Kp.mk (show bits .xor .u32 (bits .xor .u32 (rot y2 17) (rot y2 19)) (y2 / 1024) = sm1 y2 from rfl)
        rw [HA2.out]
        generalize sm1 y2 = s1 at HW
        have E1 := Kp.mk (F1.out.drewN nq)
        have E2 := Kp.mk (F2.out.drewN nq)
        have f7 : (w2.drewN nq).cell? ⟨V, k - 7, none⟩ = some (.int .u32 y7) := d7
        have f16 : (w2.drewN nq).cell? ⟨V, k - 16, none⟩ = some (.int .u32 y16) := d16
        clear d2 d7 d16 F1 F2
        generalize w2.drewN nq = w3 at *
        go_wp2_with fail
        have q7 : 7 ≤ (k : Int) := by omega
        have q16 : 16 ≤ (k : Int) := by omega
        refine wp_region_still_tail 15 (by kernel_rfl) (by kernel_rfl) ?_
        simp only [List.take_succ_cons, List.take_zero, List.drop_succ_cons, List.drop_zero]
        iterate 15 still_step
        refine wpStill_nil ?_
        clear a2 a7 a15 a16 n2 n7 n15 n16 p2 p7 p15 p16 e2 e7 e15 e16 f7 f16
        refine wpl_world (fun w2 => Row w2 V 147 .u32 (fill 64 ((sched l 48).take k)) ∧ Fx A K R s.list w w2) ⟨E1.out.drew, E2.out.drew⟩ ?_
        rintro w4 ⟨h1, h2⟩
        have D1 := Kp.mk h1
        have D2 := Kp.mk h2
        have cw := h1.cell (i := k) (by rw [fill_len (by rw [HLt.out]; omega)]; omega)
        have fw := h1.frozen k
        clear h1 h2
        go_wp2_with fail
        refine ⟨⟨k + 1, by omega, by go_num, ?_, D2.out.set (by have := HN.out; omega) (by have := HN.out; omega) (by have := HN.out; omega) (by have := HN.out; omega)⟩, by simp [intOf]; omega⟩
        refine (D1.out.set k _).as ?_
        have h3 := fill_set (n := 64) (l := (sched l 48).take k) (by rw [HLt.out]; omega) ((s1 + y7 + s0 + y16) % 4294967296)
        rw [HLt.out] at h3
        rw [HSt.out, HW.out, ← h3]
    · have HK64 : Kp (k = 64) := ⟨by omega⟩
      have hge : 64 ≤ (k : Int) := by omega
      have G3 : Kp (Row wr V 147 .u32 (sched l 48)) := by
        have h := G1.out
        rw [HK64.out, List.take_of_length_le (by rw [sched_len]; omega), fill_full (by rw [sched_len])] at h
        exact ⟨h⟩
      clear hlt hk G1
      have HC8 := Kp.mk (cells68 (list_len s))
      have HS8 := Kp.mk (size8 (list_len s))
      obtain ⟨X, hX⟩ : ∃ X, X = wr.heap.size := ⟨_, rfl⟩
      have HX := Kp.mk hX
      have HXV : Kp (V < X) := ⟨by rw [hX]; exact G3.out.lt⟩
      clear hX
      go_wp2_with (first
        | (refine wpList_load_row rfl 142 (.tmp 3) rfl A rfl 142 (kv .u32 s.list).toArray (0, 0) _ G2.out.st Tryd.underlying142 rfl HC8.out ?_)
        | (refine wpList_store_row rfl 142 (.tmp 11) (.tmp 108) rfl wr.heap.size (kv .u32 s.list).toArray rfl rfl 142 _ (Blk.new wr z68) HC8.out HS8.out (kv_all _ _) ?_))
      rw [← HX.out]
      refine wp_world (fun w2 => Row w2 V 147 .u32 (sched l 48) ∧ Fx A K R s.list w w2 ∧ Row w2 X 142 .u32 s.list) ⟨Row.otherRow (G3.out.alloc _) (by have := HXV.out; omega) _, Fx.row (G2.out.alloc z68) (by have := HN.out; have := HXV.out; omega) (by have := HN.out; have := HXV.out; omega) (by have := HN.out; have := HXV.out; omega) (by have := HN.out; have := HXV.out; omega), Row.setRow (k := .u32) (l := fill 8 []) (Blk.newAt z68 HX.out) _⟩ ?_
      rintro w2 ⟨h1, h2, h3⟩
      have H1 := Kp.mk h1
      have H2 := Kp.mk h2
      have H3 := Kp.mk h3
      clear h1 h2 h3 G2 G3 HX hge
      go_wp2_with fail
      go_loopw [12] (fun c wr => ∃ k : Nat, k ≤ 64 ∧ c = .int .i64 k ∧ Row wr V 147 .u32 (sched l 48) ∧ Fx A K R s.list w wr ∧ Row wr X 142 .u32 (rnds s (sched l 48) k).list) (fun c _ => 64 - (intOf c).toNat)
      case atStart => exact ⟨0, by omega, rfl, H1.out, H2.out, H3.out⟩
      case round =>
        obtain ⟨i, hi, rfl, h1, h2, h3⟩ := hrel
        have G1 := Kp.mk h1
        have G2 := Kp.mk h2
        have G3 := Kp.mk h3
        clear h1 h2 h3 H1 H2 H3
        by_cases hlt : i < 64
        · have HSt := Kp.mk (rnds_succ s (sched l 48) i)
          have cell : ∀ j, j < 8 → wr.cell? ⟨X, j, none⟩ = some (.int .u32 ((rnds s (sched l 48) i).list.getD j 0)) := fun j hj => G3.out.cell (by rw [list_len]; exact hj)
          have c0 : wr.cell? ⟨X, 0, none⟩ = some (.int .u32 (rnds s (sched l 48) i).a) := cell 0 (by omega)
          have c1 : wr.cell? ⟨X, 1, none⟩ = some (.int .u32 (rnds s (sched l 48) i).b) := cell 1 (by omega)
          have c2 : wr.cell? ⟨X, 2, none⟩ = some (.int .u32 (rnds s (sched l 48) i).c) := cell 2 (by omega)
          have c3 : wr.cell? ⟨X, 3, none⟩ = some (.int .u32 (rnds s (sched l 48) i).d) := cell 3 (by omega)
          have c4 : wr.cell? ⟨X, 4, none⟩ = some (.int .u32 (rnds s (sched l 48) i).e) := cell 4 (by omega)
          have c5 : wr.cell? ⟨X, 5, none⟩ = some (.int .u32 (rnds s (sched l 48) i).f) := cell 5 (by omega)
          have c6 : wr.cell? ⟨X, 6, none⟩ = some (.int .u32 (rnds s (sched l 48) i).g) := cell 6 (by omega)
          have c7 : wr.cell? ⟨X, 7, none⟩ = some (.int .u32 (rnds s (sched l 48) i).h) := cell 7 (by omega)
          have ck := G2.out.kn.cell (i := i) (by rw [kon_len]; exact hlt)
          have cw := G1.out.cell (i := i) (by rw [sched_len]; omega)
          have HTt : Kp (St.mk (rnds s (sched l 48) i).a (rnds s (sched l 48) i).b (rnds s (sched l 48) i).c (rnds s (sched l 48) i).d (rnds s (sched l 48) i).e (rnds s (sched l 48) i).f (rnds s (sched l 48) i).g (rnds s (sched l 48) i).h = rnds s (sched l 48) i) := ⟨rfl⟩
          clear cell
          generalize kon.getD i 0 = kk at *
          generalize (sched l 48).getD i 0 = ww at *
          generalize (rnds s (sched l 48) i).a = ta at *
          generalize (rnds s (sched l 48) i).b = tb at *
          generalize (rnds s (sched l 48) i).c = tc at *
          generalize (rnds s (sched l 48) i).d = td at *
          generalize (rnds s (sched l 48) i).e = te at *
          generalize (rnds s (sched l 48) i).f = tf at *
          generalize (rnds s (sched l 48) i).g = tg at *
          generalize (rnds s (sched l 48) i).h = th at *
          have i64 : (i : Int) < 64 := by omega
          go_wp2_with fail
          go_quiet ((first
            | (go_at_call_of 102 (Value.int IntKind.u64 6); with_reducible exact Calls.quiet_of_same (rotrS te 6 6 _ rfl (by decide) (by decide)))
            | (go_at_call_of 102 (Value.int IntKind.u64 11); with_reducible exact Calls.quiet_of_same (rotrS te 11 11 _ rfl (by decide) (by decide)))
            | (go_at_call_of 102 (Value.int IntKind.u64 25); with_reducible exact Calls.quiet_of_same (rotrS te 25 25 _ rfl (by decide) (by decide)))))
          generalize hT1 : ((_ + ww) % 4294967296 : Int) = T1
          have HT1 := Kp.mk (step1_max ⟨ta, tb, tc, td, te, tf, tg, th⟩ kk ww T1 hT1)
          clear hT1
          have HMj := Kp.mk (show bits .xor .u32 (bits .xor .u32 (bits .and .u32 ta tb) (bits .and .u32 ta tc)) (bits .and .u32 tb tc) = maj ta tb tc from rfl)
          rw [HMj.out]
          generalize hA1 : bits .xor .u32 IntKind.u32.max te = y1
          generalize hA2 : bits .and .u32 y1 tg = y2
          generalize hA3 : bits .and .u32 te tf = y3
          generalize hA4 : bits .xor .u32 y3 y2 = y4
          generalize hA5 : bits .xor .u32 (bits .xor .u32 (rot te 6) (rot te 11)) (rot te 25) = y5
          generalize ((_ + kk) % 4294967296 : Int) = y6
          generalize ((_ + y4) % 4294967296 : Int) = y7
          generalize ((_ + y5) % 4294967296 : Int) = y8
          clear hA1 hA2 hA3 hA4 hA5
          have F1 := Kp.mk (G1.out.drewN nq)
          have F2 := Kp.mk (G2.out.drewN nq)
          have F3 := Kp.mk (G3.out.drewN nq)
          have d0 : (wr.drewN nq).cell? ⟨X, 0, none⟩ = some (.int .u32 ta) := c0
          have d1 : (wr.drewN nq).cell? ⟨X, 1, none⟩ = some (.int .u32 tb) := c1
          have d2 : (wr.drewN nq).cell? ⟨X, 2, none⟩ = some (.int .u32 tc) := c2
          have d3 : (wr.drewN nq).cell? ⟨X, 3, none⟩ = some (.int .u32 td) := c3
          have d4 : (wr.drewN nq).cell? ⟨X, 4, none⟩ = some (.int .u32 te) := c4
          have d5 : (wr.drewN nq).cell? ⟨X, 5, none⟩ = some (.int .u32 tf) := c5
          have d6 : (wr.drewN nq).cell? ⟨X, 6, none⟩ = some (.int .u32 tg) := c6
          clear c0 c1 c2 c3 c4 c5 c6 c7 ck cw G1 G2 G3
          generalize wr.drewN nq = w4 at *
          generalize hmj : maj ta tb tc = mj at *
          have HMk := Kp.mk hmj
          clear hmj HMj
          go_wp2_with fail
          go_quiet ((first
            | (go_at_call_of 102 (Value.int IntKind.u64 2); with_reducible exact Calls.quiet_of_same (rotrS ta 2 2 _ rfl (by decide) (by decide)))
            | (go_at_call_of 102 (Value.int IntKind.u64 13); with_reducible exact Calls.quiet_of_same (rotrS ta 13 13 _ rfl (by decide) (by decide)))
            | (go_at_call_of 102 (Value.int IntKind.u64 22); with_reducible exact Calls.quiet_of_same (rotrS ta 22 22 _ rfl (by decide) (by decide)))))
          have HBg := Kp.mk (show bits .xor .u32 (bits .xor .u32 (rot ta 2) (rot ta 13)) (rot ta 22) = bg0 ta from rfl)
          rw [HBg.out]
          generalize hT2 : ((bg0 ta + mj) % 4294967296 : Int) = T2
          generalize bg0 ta = z1
          have HT2 : Kp (T2 = step2 ⟨ta, tb, tc, td, te, tf, tg, th⟩) := ⟨by rw [← hT2, ← HMk.out]; exact (w32_mod _).symm⟩
          clear hT2
          have E1 := Kp.mk (F1.out.drewN nq)
          have E2 := Kp.mk (F2.out.drewN nq)
          have E3 := Kp.mk (F3.out.drewN nq)
          have f0 : (w4.drewN nq).cell? ⟨X, 0, none⟩ = some (.int .u32 ta) := d0
          have f1 : (w4.drewN nq).cell? ⟨X, 1, none⟩ = some (.int .u32 tb) := d1
          have f2 : (w4.drewN nq).cell? ⟨X, 2, none⟩ = some (.int .u32 tc) := d2
          have f3 : (w4.drewN nq).cell? ⟨X, 3, none⟩ = some (.int .u32 td) := d3
          have f4 : (w4.drewN nq).cell? ⟨X, 4, none⟩ = some (.int .u32 te) := d4
          have f5 : (w4.drewN nq).cell? ⟨X, 5, none⟩ = some (.int .u32 tf) := d5
          have f6 : (w4.drewN nq).cell? ⟨X, 6, none⟩ = some (.int .u32 tg) := d6
          clear d0 d1 d2 d3 d4 d5 d6 F1 F2 F3
          generalize w4.drewN nq = w5 at *
          have HC8' : Kp ((Tryd.prog.info? 142).map (·.size) = some (kv .u32 [(T1 + T2) % 4294967296, ta, tb, tc, (td + T1) % 4294967296, te, tf, tg]).toArray.size) := ⟨cells68 rfl⟩
          have HS8' : Kp ((kv .u32 (rnds s (sched l 48) i).list).toArray.size = (kv .u32 [(T1 + T2) % 4294967296, ta, tb, tc, (td + T1) % 4294967296, te, tf, tg]).toArray.size) := ⟨by rw [kv_size, kv_size]; rfl⟩
          have HA8' : Kp ((kv .u32 [(T1 + T2) % 4294967296, ta, tb, tc, (td + T1) % 4294967296, te, tf, tg]).toArray.all (·.oneCell') = true) := ⟨kv_all _ _⟩
          go_wp2_with (refine wpList_store_row rfl 142 (.tmp 11) (.tmp 198) rfl X (kv .u32 [(T1 + T2) % 4294967296, ta, tb, tc, (td + T1) % 4294967296, te, tf, tg]).toArray rfl rfl 142 _ E3.out HC8'.out HS8'.out HA8'.out ?_)
          refine ⟨⟨i + 1, by omega, by go_num, E1.out.otherRow (by have := HXV.out; omega) _, E2.out.row (by have := HN.out; have := HXV.out; omega) (by have := HN.out; have := HXV.out; omega) (by have := HN.out; have := HXV.out; omega) (by have := HN.out; have := HXV.out; omega), ?_⟩, by simp [intOf]; omega⟩
          have hR := E3.out.setRow [(T1 + T2) % 4294967296, ta, tb, tc, (td + T1) % 4294967296, te, tf, tg]
          refine hR.as ?_
          rw [HSt.out, ← HTt.out, HT1.out, HT2.out]
          unfold round w32
          simp only [w32_mod]
          rfl
        · have HI : Kp (i = 64) := ⟨by omega⟩
          have hge : 64 ≤ (i : Int) := by omega
          clear hlt hi
          go_wp2_with fail
          have G4 : Kp (Row wr X 142 .u32 (rnds s (sched l 48) 64).list) := by
            have h := G3.out
            rw [HI.out] at h
            exact ⟨h⟩
          have HBk : Kp (block s l = s.add (rnds s (sched l 48) 64)) := ⟨rfl⟩
          clear hge G1 G3
          generalize rnds s (sched l 48) 64 = t at *
          go_loopw [17] (fun c wr => ∃ j : Nat, j ≤ 8 ∧ c = .int .i64 j ∧ Fx A K R (mix s (s.add t) j) w wr ∧ Row wr X 142 .u32 t.list) (fun c _ => 8 - (intOf c).toNat)
          case atStart => exact ⟨0, by omega, rfl, by rw [mix_zero]; exact G2.out, G4.out⟩
          case round =>
            obtain ⟨j, hj, rfl, h1, h2⟩ := hrel
            have P1 := Kp.mk h1
            have P2 := Kp.mk h2
            clear h1 h2 G2 G4
            by_cases hlj : j < 8
            · have cs : wr.cell? ⟨A, j, none⟩ = some (.int .u32 (s.list.getD j 0)) := by
                rw [P1.out.st.cell (by rw [mix_len _ _ _ hj]; exact hlj), mix_get _ _ _ hlj]
              have ct : wr.cell? ⟨X, j, none⟩ = some (.int .u32 (t.list.getD j 0)) := P2.out.cell (by rw [list_len]; exact hlj)
              have HA := Kp.mk (add_get s t j hlj)
              generalize s.list.getD j 0 = y0 at *
              generalize t.list.getD j 0 = y1 at *
              have j8 : (j : Int) < 8 := by omega
              go_wp2_with fail
              go_still_tail 9, (by kernel_rfl)
              clear cs ct
              refine wpl_world (fun w2 => Fx A K R (mix s (s.add t) j) w w2 ∧ Row w2 X 142 .u32 t.list) ⟨P1.out.drew, P2.out.drew⟩ ?_
              rintro w2 ⟨h1, h2⟩
              have Q1 := Kp.mk h1
              have Q2 := Kp.mk h2
              have cw := h1.st.cell (i := j) (by rw [mix_len _ _ _ hj]; exact hlj)
              have fw := h1.st.frozen j
              clear h1 h2
              go_wp2_with fail
              refine ⟨⟨j + 1, by omega, by go_num, ?_, Q2.out.other (by show A ≠ X; have := HN.out; have := HXV.out; omega) _⟩, by simp [intOf]; omega⟩
              have h := Q1.out.setA (i := j) (x := (y0 + y1) % 4294967296) (by have := HN.out; omega) (by have := HN.out; omega)
              rw [mix_set _ _ _ hlj _ HA.out.symm] at h
              exact h
            · have HJ : Kp (j = 8) := ⟨by omega⟩
              have hge : 8 ≤ (j : Int) := by omega
              have HF : Kp (Row wr A 142 .u32 (block s l).list) := by
                have h := P1.out.st
                rw [HJ.out, mix_full, ← HBk.out] at h
                exact ⟨h⟩
              have HC9 := Kp.mk (cells68 (list_len (block s l)))
              have HS9 := Kp.mk (size8 (list_len (block s l)))
              have HR9 := Kp.mk (P1.out.rs.setRow (block s l).list)
              have HB9 := Kp.mk (Below.row P1.out.be (g := R) (by have := HN.out; omega) (kv .u32 (block s l).list).toArray)
              clear hlj hj
              go_wp2_with (first
                | (refine wpList_load_row rfl 142 (.tmp 3) rfl A rfl 142 (kv .u32 (block s l).list).toArray (0, 0) _ HF.out Tryd.underlying142 rfl HC9.out ?_)
                | (refine wpList_store_row rfl 142 (.tmp 6) (.tmp 212) rfl R (kv .u32 (block s l).list).toArray rfl rfl 142 _ P1.out.rs HC9.out HS9.out (kv_all _ _) ?_))
              refine bodyPost_ret (v := .agg (kv .u32 (block s l).list).toArray) ?_ rfl ⟨rfl, by rw [← HAe.out]; exact HB9.out⟩
              exact results_cell_row rfl _ _ R 142 _ (0, 0) _ rfl HR9.out Tryd.underlying142 rfl HC9.out
end Go.Proofs.YtpljjmdkagbjpaaDoor
