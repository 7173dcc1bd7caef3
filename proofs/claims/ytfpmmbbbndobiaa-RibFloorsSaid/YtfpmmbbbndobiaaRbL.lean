/-
  Nil tables; what has no route.
-/
import Derived.Test.YtfpmmbbbndobiaaRbI
namespace Go.Proofs.Ytfpmmbbbndobiaa
open Go.RowKit

theorem expire_nil (now : Int) (w : World) : Calls Try.prog 20 #[.pointer none, .int .i64 now] w fun r w' => r = .returned (.slice none 0 0) ∧ Below w.heap.size w w' := by
  have HB : Kp (∀ o o', Below w.heap.size w ((w.alloc o).alloc o')) := ⟨fun o o' => more (more (Below.refl _ _) _) _⟩
  go_enter Try.func20, Try.ntmps20
  go_wp2_with fail
  refine (drop_nil _ now _).mono ?_
  rintro r w1 ⟨rfl, rfl⟩
  go_wp2_with fail
  go_ret
  exact ⟨rfl, HB.out _ _⟩
theorem prune_nil (d : Int) (k : K3) (w : World) : Calls Try.prog 22 #[.pointer none, .int .i64 d, keyV k] w fun r w' => r = .returned (.int .i64 2) ∧ Below w.heap.size w w' := by
  have HB : Kp (∀ o, Below w.heap.size w (w.alloc o)) := ⟨fun o => more (Below.refl _ _) _⟩
  obtain ⟨e, s, m⟩ := k
  go_enter Try.func22, Try.ntmps22
  go_wp2_with fail
  go_ret
  exact ⟨rfl, HB.out _⟩
theorem offers_nil (d : Int) (w : World) : Calls Try.prog 29 #[.pointer none, .int .i64 d] w fun r w' => r = .returned (.int .i64 0) ∧ w = w' := by
  go_enter Try.func29, Try.ntmps29
  go_wp2_with fail
  go_ret
  exact ⟨rfl, rfl⟩
/-- A route's cells. -/
def rtc (d : Int) (k : K3) (n : Int) (v : Bool) (s : Int) (x : KV) : List Value := .int .i64 d :: (kc k ++ (.int .i64 n :: .bool v :: .int .i64 s :: knc x))
def rt0 : List Value := rtc 0 k0 0 false 0 (kn0 0 k0)
theorem info70z : (Try.prog.info? 70).map (fun i => (i.zero, i.size)) = some (some (.agg rt0.toArray), 28) := by kernel_rfl
theorem info70s0 : (Try.prog.info? 70).map (·.size) = some rt0.toArray.size := by kernel_rfl
theorem built70 : Try.prog.built 70 [] = some rt0.toArray := by kernel_rfl
theorem rt0_one : ∀ v ∈ rt0, v.oneCell' = true := by
  intro v hv
  simp only [rt0, rtc, List.mem_cons, List.mem_append] at hv
  rcases hv with h | h | h | h | h | h
  · subst h; rfl
  · exact kc_one k0 _ (by simpa [kc] using h)
  · subst h; rfl
  · subst h; rfl
  · subst h; rfl
  · exact knc_one _ _ h
def NoRoute (w : World) (r : Ending) (w' : World) : Prop := r = .returned (.tuple #[.agg rt0.toArray, .bool false]) ∧ Below w.heap.size w w'
theorem ret24 {tmps : Array Value} {w : World} {cs : List Value} {x : Bool} {g : Nat} (h4 : tmps.getD 4 undef = .pointer (some ⟨g, 0, none⟩)) (h5 : tmps.getD 5 undef = .bool x) (hg : Blk w g (.cells cs.toArray 70)) (hl : (Try.prog.info? 70).map (·.size) = some cs.toArray.size) : (results Try.f24 tmps).run Try.prog w = .ok (.tuple #[.agg cs.toArray, .bool x]) w := by
  have h4' : tmps[4]?.getD undef = .pointer (some ⟨g, 0, none⟩) := by simpa using h4
  have h5' : tmps[5]?.getD undef = .bool x := by simpa using h5
  have hl2 := run_loadVar_row (P := Try.prog) w g 70 70 cs.toArray (0, 0) _ hg Try.underlying70 rfl hl
  simp [results, Try.results24, h4', h5', asAddr, hl2]
set_option maxHeartbeats 1600000 in
/-- Get where Lookup says that there is none. -/
theorem get_no (tv : Value) (d : Int) (w : World) (hl : ∀ wx, Below w.heap.size w wx → Calls Try.prog 25 #[tv, .int .i64 d] wx fun r w' => (∃ n : Int, r = .returned (.tuple #[.int .i64 n, .bool false])) ∧ wx = w') : Calls Try.prog 24 #[tv, .int .i64 d] w (NoRoute w) := by
  have HL := Kp.mk hl
  obtain ⟨Z, hZ⟩ : ∃ Z, Z = rt0 := ⟨_, rfl⟩
  have HZ := Kp.mk hZ
  have HINF : Kp ((Try.prog.info? 70).map (fun i => (i.zero, i.size)) = some (some (.agg Z.toArray), 28) ∧ Try.prog.built 70 (#[] : Array (Nat × Value)).toList = some Z.toArray ∧ (Try.prog.info? 70).map (·.size) = some Z.toArray.size ∧ ∀ v ∈ Z, v.oneCell' = true) := ⟨by rw [hZ]; exact ⟨info70z, built70, info70s0, rt0_one⟩⟩
  unfold NoRoute
  rw [← hZ]
  obtain ⟨R, hR⟩ : ∃ R, R = w.heap.size := ⟨_, rfl⟩
  have HR := Kp.mk hR
  have K0 : Kp (Blk (w.alloc (.cells Z.toArray 70)) R (.cells Z.toArray 70) ∧ Below w.heap.size w (w.alloc (.cells Z.toArray 70))) := ⟨Blk.newAt _ hR, more (Below.refl _ _) _⟩
  clear hl hZ hR
  go_enter Try.func24, Try.ntmps24
  go_wp2_with (refine wpList_alloc_row rfl 70 rfl Z.toArray 28 HINF.out.1 ?_)
  rw [← HR.out]
  revert K0
  generalize w.alloc (.cells Z.toArray 70) = W
  intro K0
  refine (HL.out W K0.out.2).mono ?_
  rintro r w1 ⟨⟨n, rfl⟩, rfl⟩
  go_wp2_with (first
    | (refine wpList_build_eq rfl 70 #[] rfl #[] (by simp) Z.toArray HINF.out.2.1 ?_)
    | (refine wpList_store_row rfl 70 (.tmp 4) (.tmp 17) rfl R Z.toArray rfl rfl 70 _ K0.out.1 HINF.out.2.2.1 rfl (all_oneCell_toArray HINF.out.2.2.2) ?_
       have K1 : Kp (Blk (W.setRow R Z.toArray) R (.cells Z.toArray 70) ∧ Below w.heap.size w (W.setRow R Z.toArray)) := ⟨Blk.setRow K0.out.1 _, below_setRow K0.out.2 (by have := HR.out; omega) _⟩
       revert K1
       generalize W.setRow R Z.toArray = W1
       intro K1))
  exact bodyPost_ret (v := .tuple #[.agg Z.toArray, .bool false]) (ret24 rfl rfl K1.out.1 HINF.out.2.2.1) rfl ⟨rfl, K1.out.2⟩
set_option maxHeartbeats 1600000 in
/-- Valid where there are no routes. -/
theorem valid_no (tv : Value) (w : World) (hl : ∀ (d : Nat) wx, d < 8 → Below w.heap.size w wx → Calls Try.prog 25 #[tv, .int .i64 d] wx fun r w' => (∃ n : Int, r = .returned (.tuple #[.int .i64 n, .bool false])) ∧ wx = w') : Calls Try.prog 23 #[tv] w fun r w' => r = .returned (.slice none 0 0) ∧ Below w.heap.size w w' := by
  have HL := Kp.mk hl
  obtain ⟨Z, hZ⟩ : ∃ Z, Z = rt0 := ⟨_, rfl⟩
  have HZ := Kp.mk hZ
  have HINF : Kp ((Try.prog.info? 70).map (fun i => (i.zero, i.size)) = some (some (.agg Z.toArray), 28) ∧ (Try.prog.info? 70).map (·.size) = some Z.toArray.size ∧ ∀ v ∈ Z, v.oneCell' = true) := ⟨by rw [hZ]; exact ⟨info70z, info70s0, rt0_one⟩⟩
  clear hl hZ
  go_enter Try.func23, Try.ntmps23
  go_wp2_with fail
  go_loopw [3, 7] (fun v ct wr => ∃ d : Nat, d ≤ 8 ∧ ct = .int .i64 d ∧ v = .slice none 0 0 ∧ Kp (Below w.heap.size w wr)) (fun _ ct _ => 8 - (intOf ct).toNat)
  case atStart => exact ⟨0, by omega, rfl, rfl, ⟨Below.refl _ _⟩⟩
  case round =>
    obtain ⟨d, hd8, rfl, rfl, K0⟩ := hrel
    by_cases hlt : d < 8
    · have HD := Kp.mk hlt
      go_wp2_with fail
      refine (get_no tv d wr (fun wx hx => HL.out d wx HD.out (K0.out.trans (hx.mono K0.out.size)))).mono ?_
      rintro r w1 ⟨rfl, hb⟩
      rw [← HZ.out]
      have K1 := Kp.mk (K0.out.trans (hb.mono K0.out.size))
      clear hb K0
      go_upto_region 6 with (first
        | (refine wpList_alloc_row rfl 70 rfl Z.toArray 28 HINF.out.1 ?_)
        | (refine wpList_store_row rfl 70 (.tmp 5) (.tmp 14) rfl w1.heap.size Z.toArray rfl rfl 70 _ (Blk.newAt _ rfl) HINF.out.2.1 rfl (all_oneCell_toArray HINF.out.2.2) ?_
           rw [World.setRow_alloc_new]
           have K2 : Kp (Below w.heap.size w (w1.alloc (.cells Z.toArray 70))) := ⟨K1.out.alloc K1.out.size _⟩
           revert K2
           generalize w1.alloc (.cells Z.toArray 70) = w2
           intro K2))
      clear K1
      go_wp2_with fail
      exact ⟨⟨d + 1, by omega, by go_num, rfl, K2⟩, by simp [intOf]; omega⟩
    · obtain rfl : d = 8 := by omega
      go_wp2_with fail
      go_ret
      exact ⟨rfl, K0.out⟩
end Go.Proofs.Ytfpmmbbbndobiaa
