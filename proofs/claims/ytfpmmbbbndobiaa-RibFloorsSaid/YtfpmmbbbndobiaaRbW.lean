/-
  Get where there is a route.
-/
import Derived.Test.YtfpmmbbbndobiaaRbV
namespace Go.Proofs.Ytfpmmbbbndobiaa
open Go.RowKit

theorem info70s (d : Int) (k : K3) (n : Int) (v : Bool) (s : Int) (x : KV) : (Try.prog.info? 70).map (·.size) = some (rtc d k n v s x).toArray.size := by kernel_rfl
theorem rtc_one (d : Int) (k : K3) (n : Int) (v : Bool) (s : Int) (x : KV) : ∀ u ∈ rtc d k n v s x, u.oneCell' = true := by
  intro u hu
  simp only [rtc, List.mem_cons, List.mem_append] at hu
  rcases hu with h | h | h | h | h | h
  · subst h; rfl
  · exact kc_one k _ (by simpa [kc] using h)
  · subst h; rfl
  · subst h; rfl
  · subst h; rfl
  · exact knc_one _ _ h
theorem built70r (d : Int) (k : K3) (n : Int) (v : Bool) (s : Int) (x : KV) : Try.prog.built 70 [(0, .int .i64 d), (1, keyV k), (2, .int .i64 n), (3, .bool v), (4, .int .i64 s), (5, .agg (knc x).toArray)] = some (rtc d k n v s x).toArray := by kernel_rfl
/-- What Get tells of a route: a copy of what is known. -/
def GetPost (T : TB) (d : Nat) (p : List Int) (w : World) (r : Ending) (w' : World) : Prop :=
  ∃ a c, r = .returned (.tuple #[.agg (rtc d (lkO T d).kn.k (lkN T d) true (lkO T d).told { (lkO T d).kn with pa := a, pc := c }).toArray, .bool true]) ∧ w'.ownsRow (w.heap.size + 1) 48 16 (.slice a (lkO T d).kn.pn c) (lkO T d).kn.pn (bv p) ∧ Below w.heap.size w w'
set_option maxRecDepth 100000 in
set_option maxHeartbeats 6400000 in
theorem get_yes (T : TB) (t d : Nat) (p : List Int) (w : World) (h : Blk w t T.obj) (hwy : T.Ways) (hlk : lkB T d = true) (hp : PathOK w t (lkO T d).kn p) : Calls Try.prog 24 #[.pointer (some ⟨t, 0, none⟩), .int .i64 d] w (GetPost T d p w) := by
  have hd8 : d < 8 := by unfold lkB ndB at hlk; simp at hlk; omega
  have hd0 : (d : Int) < 8 := by omega
  obtain ⟨n, hn⟩ : ∃ n : Nat, T.way d = n := ⟨(T.way d).toNat, by have := hwy d hd8; omega⟩
  have hn8 : n < 8 := by have := hwy d hd8; omega
  have hn0 : (n : Int) < 8 := by omega
  have hN : lkN T d = n := by unfold lkN; rw [if_pos hlk]; exact hn
  obtain ⟨b, hb⟩ : ∃ b, b = T.off (d * 8 + n) := ⟨_, rfl⟩
  have hLO : lkO T d = b := by unfold lkO; rw [hn, hb]; rfl
  have HL := fun wx hx => lookup_any T t d wx hx hwy
  rw [hN, hlk] at HL
  unfold GetPost
  rw [hN, hLO]
  rw [hLO] at hp
  have HRG : Kp (∀ wx, Blk wx t T.obj → wx.rangeAt t (3 + d * 216 + n * 27) (owc b)) := ⟨fun wx hx => by rw [hb]; exact off_range hx hd8 hn8⟩
  obtain ⟨Z, hZ⟩ : ∃ Z, Z = rt0 := ⟨_, rfl⟩
  have HZS : Kp (Z.toArray.size = 28) := ⟨by rw [hZ]; rfl⟩
  have HINF : Kp ((Try.prog.info? 70).map (fun i => (i.zero, i.size)) = some (some (.agg Z.toArray), 28)) := ⟨by rw [hZ]; exact info70z⟩
  obtain ⟨R, hR⟩ : ∃ R, R = w.heap.size := ⟨_, rfl⟩
  have HR := Kp.mk hR
  have K0 : Kp (Blk (w.alloc (.cells Z.toArray 70)) R (.cells Z.toArray 70) ∧ Below R w (w.alloc (.cells Z.toArray 70)) ∧ Blk (w.alloc (.cells Z.toArray 70)) t T.obj ∧ PathOK (w.alloc (.cells Z.toArray 70)) t b.kn p) := ⟨Blk.newAt _ hR, by rw [hR]; exact more (Below.refl _ _) _, h.old _, hp.keep (more (Below.refl _ _) _)⟩
  clear h hwy hlk hp hd8 hn8 hn hN hb hLO hZ hR
  go_enter Try.func24, Try.ntmps24
  go_wp2_with (refine wpList_alloc_row rfl 70 rfl Z.toArray 28 HINF.out ?_)
  rw [← HR.out]
  revert K0
  generalize w.alloc (.cells Z.toArray 70) = W
  intro K0
  refine (HL W K0.out.2.2.1).mono ?_
  rintro r w1 ⟨rfl, rfl⟩
  clear HL
  obtain ⟨G, hG⟩ : ∃ G, G = W.heap.size := ⟨_, rfl⟩
  have HGE := Kp.mk hG
  have HGR : Kp (G ≠ R) := ⟨by have := K0.out.1.lt; omega⟩
  have K5 : Kp (Blk (W.alloc b.obj) G b.obj ∧ Blk (W.alloc b.obj) R (.cells Z.toArray 70) ∧ Below R w (W.alloc b.obj)) := ⟨Blk.newAt _ hG, K0.out.1.old _, K0.out.2.1.trans ((more (Below.refl _ _) _).mono (Nat.le_of_lt K0.out.1.lt))⟩
  have HP5 : Kp (PathOK (W.alloc b.obj) t b.kn p) := ⟨K0.out.2.2.2.keep (more (Below.refl _ _) _)⟩
  clear hG
  go_upto_region 5 with (first
    | (refine wpList_load_mid rfl 101 (.tmp 24) rfl t (3 + d * 216 + n * 27) rfl (owc b) _ (HRG.out _ K0.out.2.2.1) Try.underlying101 rfl (by kernel_rfl) ?_)
    | (refine wpList_alloc_row rfl 101 rfl (owc ow0).toArray 27 info101z ?_)
    | (refine wpList_store_row rfl 101 (.tmp 8) (.tmp 25) rfl W.heap.size (owc b).toArray rfl rfl 101 _ (Blk.new _ _) (info101s b) rfl (all_oneCell_toArray (owc_one b)) ?_
       rw [World.setRow_alloc_new]))
  rw [← HGE.out]
  clear HRG K0
  revert K5 HP5
  generalize W.alloc b.obj = w5
  intro K5 HP5
  refine wp_region_held_drew (S := fun w' => Blk w' G b.obj) (by kernel_rfl) (K5.out.1.draw) (fun hH => ?_)
  refine wpAnyH_take (i := 0) (oi := { dst := some 26, op := Go.Op.move (Go.Operand.tmp 1), type := 3, pos := "rib.go:66", after := #[], guard := none }) (v := .int .i64 d) rfl (by kernel_rfl) (by kernel_rfl) (by kernel_rfl) (fun _ _ _ h => h) (Or.inl ⟨by rfl, fun w hS => by first | rfl | go_simp⟩) hH ?_
  simp only [Act.put, List.setIfInBounds_toArray, List.set_cons_zero, List.set_cons_succ]
  refine wpAnyH_take (i := 1) (oi := { dst := some 27, op := Go.Op.fieldAddr 101 (Go.Operand.tmp 8) 2, type := 0, pos := "rib.go:66", after := #[], guard := none }) (v := .pointer (some ⟨G, 2, none⟩)) rfl (by kernel_rfl) (by kernel_rfl) (by kernel_rfl) (fun _ _ _ h => h) (Or.inl ⟨by rfl, fun w hS => by go_simp⟩) hH ?_
  simp only [Act.put, List.setIfInBounds_toArray, List.set_cons_zero, List.set_cons_succ]
  refine wpAnyH_take (i := 2) (oi := { dst := some 28, op := Go.Op.fieldAddr 51 (Go.Operand.tmp 27) 1, type := 0, pos := "rib.go:66", after := #[{ on := 1, ground := Go.Ground.data }], guard := none }) (v := .pointer (some ⟨G, 3, none⟩)) rfl (by kernel_rfl) (by kernel_rfl) (by kernel_rfl) (fun _ _ _ h => h) (Or.inl ⟨by rfl, fun w hS => by go_simp⟩) hH ?_
  simp only [Act.put, List.setIfInBounds_toArray, List.set_cons_zero, List.set_cons_succ]
  refine wpAnyH_take (i := 3) (oi := { dst := some 29, op := Go.Op.load 47 (Go.Operand.tmp 28), type := 47, pos := "rib.go:66", after := #[{ on := 2, ground := Go.Ground.data }], guard := none }) (v := keyV b.kn.k) rfl (by kernel_rfl) (by kernel_rfl) (by kernel_rfl) (fun _ _ _ h => h) (Or.inl ⟨by rfl, fun w hS => exec_load_mid (cs := kc b.kn.k) rfl rfl (Blk.range (cs := owc b) (o := 3) hS rfl) Try.underlying47 rfl (by kernel_rfl)⟩) hH ?_
  simp only [Act.put, List.setIfInBounds_toArray, List.set_cons_zero, List.set_cons_succ]
  refine wpAnyH_take (i := 4) (oi := { dst := some 30, op := Go.Op.move (Go.Operand.tmp 6), type := 3, pos := "rib.go:66", after := #[], guard := none }) (v := .int .i64 n) rfl (by kernel_rfl) (by kernel_rfl) (by kernel_rfl) (fun _ _ _ h => h) (Or.inl ⟨by rfl, fun w hS => by first | rfl | go_simp⟩) hH ?_
  simp only [Act.put, List.setIfInBounds_toArray, List.set_cons_zero, List.set_cons_succ]
  refine wpAnyH_take (i := 5) (oi := { dst := some 31, op := Go.Op.fieldAddr 101 (Go.Operand.tmp 8) 1, type := 0, pos := "rib.go:66", after := #[], guard := none }) (v := .pointer (some ⟨G, 1, none⟩)) rfl (by kernel_rfl) (by kernel_rfl) (by kernel_rfl) (fun _ _ _ h => h) (Or.inl ⟨by rfl, fun w hS => by go_simp⟩) hH ?_
  simp only [Act.put, List.setIfInBounds_toArray, List.set_cons_zero, List.set_cons_succ]
  refine wpAnyH_take (i := 6) (oi := { dst := some 32, op := Go.Op.load 2 (Go.Operand.tmp 31), type := 2, pos := "rib.go:66", after := #[{ on := 5, ground := Go.Ground.data }], guard := none }) (v := .int .i64 b.told) rfl (by kernel_rfl) (by kernel_rfl) (by kernel_rfl) (fun _ _ _ h => h) (Or.inl ⟨by rfl, fun w hS => by have c1 : w.cell? ⟨G, 1, none⟩ = some (.int .i64 b.told) := hS.cell 1; go_simp⟩) hH ?_
  simp only [Act.put, List.setIfInBounds_toArray, List.set_cons_zero, List.set_cons_succ]
  refine wpAnyH_take (i := 7) (oi := { dst := some 33, op := Go.Op.fieldAddr 101 (Go.Operand.tmp 8) 2, type := 0, pos := "rib.go:66", after := #[], guard := none }) (v := .pointer (some ⟨G, 2, none⟩)) rfl (by kernel_rfl) (by kernel_rfl) (by kernel_rfl) (fun _ _ _ h => h) (Or.inl ⟨by rfl, fun w hS => by go_simp⟩) hH ?_
  simp only [Act.put, List.setIfInBounds_toArray, List.set_cons_zero, List.set_cons_succ]
  refine wpAnyH_take (i := 8) (oi := { dst := some 34, op := Go.Op.load 51 (Go.Operand.tmp 33), type := 51, pos := "rib.go:66", after := #[{ on := 7, ground := Go.Ground.data }], guard := none }) (v := .agg (knc b.kn).toArray) rfl (by kernel_rfl) (by kernel_rfl) (by kernel_rfl) (fun _ _ _ h => h) (Or.inl ⟨by rfl, fun w hS => exec_load_mid (cs := knc b.kn) rfl rfl (Blk.range (cs := owc b) (o := 2) hS rfl) Try.underlying51 rfl (by kernel_rfl)⟩) hH ?_
  simp only [Act.put, List.setIfInBounds_toArray, List.set_cons_zero, List.set_cons_succ]
  refine wpAnyH_ready (rs := [9]) (by kernel_rfl) (by simp) ?_
  refine AllReadyH.cons (o := { dst := some 35, op := Go.Op.call { callee := Go.Callee.value (Go.Operand.func 44), args := #[Go.Operand.tmp 34], argTypes := #[51] }, type := 51, pos := "rib.go:66", after := #[{ on := 8, ground := Go.Ground.data }], guard := none }) rfl (fun K hK => ?_) AllReadyH.nil
  go_simp
  refine (copied_any b.kn b.kn.pn p _ (HP5.out.1.keep (Below.refl _ _).drew) HP5.out.2.1).mono ?_
  rintro r w6 ⟨ya, yc, rfl, hrow, hb⟩
  obtain ⟨y, hy⟩ : ∃ y : KV, y = { b.kn with pa := ya, pc := yc } := ⟨_, rfl⟩
  have HY := Kp.mk hy
  have K6 : Kp (Blk w6 G b.obj ∧ Blk w6 R (.cells Z.toArray 70) ∧ Below R w w6 ∧ w6.ownsRow (R + 1) 48 16 (.slice ya b.kn.pn yc) b.kn.pn (bv p)) := ⟨K5.out.1.draw.keep hb, K5.out.2.1.draw.keep hb, K5.out.2.2.drew.trans (hb.mono (Nat.le_of_lt K5.out.2.1.draw.lt)), ownsRow_down (by have := K5.out.2.1.draw.lt; exact this) hrow⟩
  have HBD := built70r d b.kn.k n true b.told y
  have e : (knc { b.kn with pa := ya, pn := b.kn.pn, pc := yc }).toArray = (knc y).toArray := by rw [hy]
  rw [e]
  clear hb hrow hy e K5 HP5
  refine hK.out _ _ (K6.out.1) (fun hHn => ?_)
  clear hK K hH
  have hH := hHn
  clear hHn
  try simp only [Act.put, List.setIfInBounds_toArray, List.set_cons_zero, List.set_cons_succ]
  refine wpAnyH_take (i := 10) (oi := { dst := some 36, op := Go.Op.build 70 #[(0, Go.Operand.tmp 26), (1, Go.Operand.tmp 29), (2, Go.Operand.tmp 30), (3, Go.Operand.const (Go.Value.bool true)), (4, Go.Operand.tmp 32), (5, Go.Operand.tmp 35)], type := 70, pos := "rib.go:66", after := #[{ on := 0, ground := Go.Ground.data }, { on := 3, ground := Go.Ground.data }, { on := 4, ground := Go.Ground.data }, { on := 6, ground := Go.Ground.data }, { on := 9, ground := Go.Ground.data }], guard := none }) (v := .agg (rtc d b.kn.k n true b.told y).toArray) rfl (by kernel_rfl) (by kernel_rfl) (by kernel_rfl) (fun _ _ _ h => h) (Or.inl ⟨by rfl, fun w hS => exec_build 70 #[(0, .tmp 26), (1, .tmp 29), (2, .tmp 30), (3, .const (.bool true)), (4, .tmp 32), (5, .tmp 35)] rfl #[(0, .int .i64 d), (1, keyV b.kn.k), (2, .int .i64 n), (3, .bool true), (4, .int .i64 b.told), (5, .agg (knc y).toArray)] (by simp only [List.map_toArray, List.map_cons, List.map_nil]; rfl) _ HBD⟩) hH ?_
  simp only [Act.put, List.setIfInBounds_toArray, List.set_cons_zero, List.set_cons_succ]
  refine wpAnyH_ready (rs := [11]) (by kernel_rfl) (by simp) ?_
  refine AllReadyH.cons (o := { dst := none, op := Go.Op.store 70 (Go.Operand.tmp 4) (Go.Operand.tmp 36), type := 0, pos := "rib.go:66", after := #[{ on := 10, ground := Go.Ground.data }, { on := 9, ground := Go.Ground.chain }, { on := 0, ground := Go.Ground.phase }, { on := 1, ground := Go.Ground.phase }, { on := 2, ground := Go.Ground.phase }, { on := 3, ground := Go.Ground.phase }, { on := 4, ground := Go.Ground.phase }, { on := 5, ground := Go.Ground.phase }, { on := 6, ground := Go.Ground.phase }, { on := 7, ground := Go.Ground.phase }, { on := 8, ground := Go.Ground.phase }, { on := 9, ground := Go.Ground.phase }, { on := 10, ground := Go.Ground.phase }], guard := none }) rfl (fun K hK => ?_) AllReadyH.nil
  refine wp_store_row 70 (.tmp 4) (.tmp 36) rfl R (rtc d b.kn.k n true b.told y).toArray rfl rfl 70 _ K6.out.2.1 (info70s d b.kn.k n true b.told y) (by rw [HZS.out]; rfl) (all_oneCell_toArray (rtc_one d b.kn.k n true b.told y)) ?_
  have K7 : Kp (Blk (w6.setRow R (rtc d b.kn.k n true b.told y).toArray) G b.obj ∧ Blk (w6.setRow R (rtc d b.kn.k n true b.told y).toArray) R (.cells (rtc d b.kn.k n true b.told y).toArray 70) ∧ Below R w (w6.setRow R (rtc d b.kn.k n true b.told y).toArray) ∧ (w6.setRow R (rtc d b.kn.k n true b.told y).toArray).ownsRow (R + 1) 48 16 (.slice ya b.kn.pn yc) b.kn.pn (bv p)) := ⟨(setRow_other w6 R G _ HGR.out).trans K6.out.1, Blk.setRow K6.out.2.1 _, below_setRow K6.out.2.2.1 (Nat.le_refl _) _, ownsRow_setRow_low K6.out.2.2.2 (Nat.lt_succ_self R) _⟩
  refine hK.out _ _ (K7.out.1) (fun hHn => ?_)
  clear hK K hH
  have hH := hHn
  clear hHn
  try simp only [Act.put, List.setIfInBounds_toArray, List.set_cons_zero, List.set_cons_succ]
  refine wpAnyH_ready (rs := [12]) (by kernel_rfl) (by simp) ?_
  refine AllReadyH.cons (o := { dst := some 5, op := Go.Op.assign (Go.Operand.const (Go.Value.bool true)), type := 4, pos := "rib.go:66", after := #[{ on := 11, ground := Go.Ground.chain }, { on := 0, ground := Go.Ground.phase }, { on := 1, ground := Go.Ground.phase }, { on := 2, ground := Go.Ground.phase }, { on := 3, ground := Go.Ground.phase }, { on := 4, ground := Go.Ground.phase }, { on := 5, ground := Go.Ground.phase }, { on := 6, ground := Go.Ground.phase }, { on := 7, ground := Go.Ground.phase }, { on := 8, ground := Go.Ground.phase }, { on := 9, ground := Go.Ground.phase }, { on := 10, ground := Go.Ground.phase }, { on := 11, ground := Go.Ground.phase }], guard := none }) rfl (fun K hK => ?_) AllReadyH.nil
  go_simp
  refine hK.out _ _ (hH) (fun hHn => ?_)
  clear hK K hH
  have hH := hHn
  clear hHn
  try simp only [Act.put]
  clear hH
  refine wpAnyH_done (by kernel_rfl) ?_ _
  go_wp2_with fail
  exact bodyPost_ret (v := .tuple #[.agg (rtc d b.kn.k n true b.told y).toArray, .bool true]) (ret24 rfl rfl K7.out.2.1 (info70s d b.kn.k n true b.told y)) rfl ⟨ya, yc, by rw [HY.out], by rw [← HR.out]; exact K7.out.2.2.2, by rw [← HR.out]; exact K7.out.2.2.1⟩
end Go.Proofs.Ytfpmmbbbndobiaa
