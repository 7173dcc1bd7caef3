/-
  The contracts of the document's toll.
-/
import Derived.Test.YthhdbniliimonaaTlC
namespace Go.Proofs.Ythhdbniliimonaa
open Go.RowKit
def TS.val (s : TS) : Value := .agg #[.int .i64 s.a, .int .i64 s.b, .int .i64 s.c, .int .i64 s.d, .int .i64 s.f, .int .i64 s.g, .int .i64 s.o]
theorem results_tmp_row {P : Program} {fn : Func} {p q : Tmp} {ty : TypeId} (h : fn.results = #[.tmp q, .cell p ty]) (tmps : Array Value) (w : World) (g : Nat) (t : TypeId) (cs : Array Value) (fr : Nat × Nat) (d : TypeDesc) (u : Value)
    (hp : tmps.getD p undef = .pointer (some ⟨g, 0, none⟩)) (hq : tmps.getD q undef = u) (hg : w.heap[g]? = some (.cells cs t fr))
    (hu : P.underlying ty = some d) (hd : (match d with | .struct _ | .array _ _ => true | _ => false) = true) (hi : (P.info? ty).map (·.size) = some cs.size) :
    (results fn tmps).run P w = .ok (.tuple #[u, .agg cs]) w := by
  have hp' : tmps[p]?.getD undef = .pointer (some ⟨g, 0, none⟩) := by simpa using hp
  have hq' : tmps[q]?.getD undef = u := by simpa using hq
  simp [results, h, hp', hq', asAddr, run_loadVar_row w g t ty cs fr d hg hu hd hi]
theorem results_row {P : Program} {fn : Func} {p : Tmp} {ty : TypeId} (h : fn.results = #[.cell p ty]) (tmps : Array Value) (w : World) (g : Nat) (t : TypeId) (cs : Array Value) (fr : Nat × Nat) (d : TypeDesc)
    (hp : tmps.getD p undef = .pointer (some ⟨g, 0, none⟩)) (hg : w.heap[g]? = some (.cells cs t fr))
    (hu : P.underlying ty = some d) (hd : (match d with | .struct _ | .array _ _ => true | _ => false) = true) (hi : (P.info? ty).map (·.size) = some cs.size) :
    (results fn tmps).run P w = .ok (.agg cs) w := by
  have hp' : tmps[p]?.getD undef = .pointer (some ⟨g, 0, none⟩) := by simpa using hp
  simp [results, h, hp', asAddr, run_loadVar_row w g t ty cs fr d hg hu hd hi]
theorem below_two (w : World) (o1 o2 : Obj) : Below w.heap.size w ((w.alloc o1).alloc o2) := more (more (Below.refl _ _) _) _
def RTPost (x : Int) (s : TS) (w : World) (e : Ending) (w' : World) : Prop := e = .returned (.tuple #[.int .i64 x, s.val]) ∧ Below w.heap.size w w'
theorem RTPost.mk {x y : Int} {s t : TS} {w w' : World} {v : Value} (h : y = x ∧ t = s) (hv : v = .int .i64 x) (hb : Below w.heap.size w w') : RTPost y t w (.returned (.tuple #[v, s.val])) w' := by
  obtain ⟨rfl, rfl⟩ := h
  subst hv
  exact ⟨rfl, hb⟩
theorem info35 : (Try.prog.info? 35).map (·.size) = some 7 := by kernel_rfl
set_option maxHeartbeats 1600000 in
theorem rhold_any (s : TS) (n : Int) (w : World) :
    Calls Try.prog 17 #[s.val, .int .i64 n] w (RTPost (holdE s n) (holdS s n) w) := by
  obtain ⟨a, b1, c, d, f, g, o⟩ := s
  unfold TS.val
  by_cases hn : n < 0
  · have HE : Kp (holdE ⟨a, b1, c, d, f, g, o⟩ n = 1 ∧ holdS ⟨a, b1, c, d, f, g, o⟩ n = ⟨a, b1, c, d, f, g, o⟩) := ⟨by simp [holdE, holdS, hn]⟩
    go_enter Try.func17, Try.ntmps17
    go_wp2_with fail
    go_region
    go_wp2_with fail
    refine bodyPost_ret (results_tmp_row rfl _ _ (w.heap.size + 1) 35 _ (0, 0) _ _ rfl rfl ((Blk.newAt _ (by simp)).draw) Try.underlying35 rfl info35) rfl (RTPost.mk HE.out rfl (Below.drew (below_two w _ _)))
  · have hn' : 0 ≤ n := by omega
    by_cases hf : g < n
    · have HE : Kp (holdE ⟨a, b1, c, d, f, g, o⟩ n = 26 ∧ holdS ⟨a, b1, c, d, f, g, o⟩ n = ⟨a, b1, c, d, f, g, o⟩) := ⟨by simp [holdE, holdS, hn, hf]⟩
      clear hn
      go_enter Try.func17, Try.ntmps17
      go_wp2_with fail
      go_region
      go_wp2_with fail
      refine bodyPost_ret (results_tmp_row rfl _ _ (w.heap.size + 1) 35 _ (0, 0) _ _ rfl rfl ((Blk.newAt _ (by simp)).draw) Try.underlying35 rfl info35) rfl (RTPost.mk HE.out rfl (Below.drew (below_two w _ _)))
    · have HE : Kp (holdE ⟨a, b1, c, d, f, g, o⟩ n = 0 ∧ holdS ⟨a, b1, c, d, f, g, o⟩ n = ⟨a, b1, c, d, f, wrap64 (g - n), wrap64 (o + n)⟩) := ⟨by simp [holdE, holdS, hn, hf]⟩
      have t1 : n ≤ g := by omega
      clear hn hf
      go_enter Try.func17, Try.ntmps17
      go_wp2_with fail
      go_region
      go_wp2_with fail
      refine bodyPost_ret (results_tmp_row rfl _ _ (w.heap.size + 1) 35 _ (0, 0) _ _ rfl rfl ((Blk.newAt _ (by simp)).draw) Try.underlying35 rfl info35) rfl (RTPost.mk HE.out rfl (Below.drew (below_two w _ _)))
set_option maxHeartbeats 1600000 in
theorem rframe_any (s : TS) (n : Int) (w : World) :
    Calls Try.prog 15 #[s.val, .int .i64 n] w (RTPost (frameE s n) (frameS s n) w) := by
  obtain ⟨a, b1, c, d, f, g, o⟩ := s
  unfold TS.val
  by_cases hn : n < 0
  · have HE : Kp (frameE ⟨a, b1, c, d, f, g, o⟩ n = 1 ∧ frameS ⟨a, b1, c, d, f, g, o⟩ n = ⟨a, b1, c, d, f, g, o⟩) := ⟨by simp [frameE, frameS, hn]⟩
    go_enter Try.func15, Try.ntmps15
    go_wp2_with fail
    go_region
    go_wp2_with fail
    refine bodyPost_ret (results_tmp_row rfl _ _ (w.heap.size + 1) 35 _ (0, 0) _ _ rfl rfl ((Blk.newAt _ (by simp)).draw) Try.underlying35 rfl info35) rfl (RTPost.mk HE.out rfl (Below.drew (below_two w _ _)))
  · have hn' : 0 ≤ n := by omega
    by_cases hf0 : f = 0
    · have HE : Kp (frameE ⟨a, b1, c, d, f, g, o⟩ n = 26 ∧ frameS ⟨a, b1, c, d, f, g, o⟩ n = ⟨a, b1, c, d, f, g, o⟩) := ⟨by simp [frameE, frameS, hn, hf0]⟩
      have t0 : (f == 0) = true := by simp [hf0]
      clear hn hf0
      go_enter Try.func15, Try.ntmps15
      go_wp2_with fail
      go_region
      go_wp2_with fail
      refine bodyPost_ret (results_tmp_row rfl _ _ (w.heap.size + 1) 35 _ (0, 0) _ _ rfl rfl ((Blk.newAt _ (by simp)).draw) Try.underlying35 rfl info35) rfl (RTPost.mk HE.out rfl (Below.drew (below_two w _ _)))
    · have t0 : (f == 0) = false := by simp [hf0]
      by_cases hf : g < n
      · have HE : Kp (frameE ⟨a, b1, c, d, f, g, o⟩ n = 26 ∧ frameS ⟨a, b1, c, d, f, g, o⟩ n = ⟨a, b1, c, d, f, g, o⟩) := ⟨by simp [frameE, frameS, hn, hf]⟩
        clear hn hf0
        go_enter Try.func15, Try.ntmps15
        go_wp2_with fail
        go_region
        go_wp2_with fail
        refine bodyPost_ret (results_tmp_row rfl _ _ (w.heap.size + 1) 35 _ (0, 0) _ _ rfl rfl ((Blk.newAt _ (by simp)).draw) Try.underlying35 rfl info35) rfl (RTPost.mk HE.out rfl (Below.drew (below_two w _ _)))
      · have HE : Kp (frameE ⟨a, b1, c, d, f, g, o⟩ n = 0 ∧ frameS ⟨a, b1, c, d, f, g, o⟩ n = ⟨a, b1, c, d, wrap64 (f - 1), wrap64 (g - n), o⟩) := ⟨by simp [frameE, frameS, hn, hf, hf0]⟩
        have t1 : n ≤ g := by omega
        clear hn hf hf0
        go_enter Try.func15, Try.ntmps15
        go_wp2_with fail
        go_region
        go_wp2_with fail
        refine bodyPost_ret (results_tmp_row rfl _ _ (w.heap.size + 1) 35 _ (0, 0) _ _ rfl rfl ((Blk.newAt _ (by simp)).draw) Try.underlying35 rfl info35) rfl (RTPost.mk HE.out rfl (Below.drew (below_two w _ _)))
set_option maxHeartbeats 1600000 in
theorem rsettle_any (s : TS) (n : Int) (w : World) :
    Calls Try.prog 19 #[s.val, .int .i64 n] w (RTPost (settleE s n) (settleS s n) w) := by
  obtain ⟨a, b1, c, d, f, g, o⟩ := s
  unfold TS.val
  by_cases hn : n < 0
  · have HE : Kp (settleE ⟨a, b1, c, d, f, g, o⟩ n = 1 ∧ settleS ⟨a, b1, c, d, f, g, o⟩ n = ⟨a, b1, c, d, f, g, o⟩) := ⟨by simp [settleE, settleS, hn]⟩
    go_enter Try.func19, Try.ntmps19
    go_wp2_with fail
    go_region
    go_wp2_with fail
    refine bodyPost_ret (results_tmp_row rfl _ _ (w.heap.size + 1) 35 _ (0, 0) _ _ rfl rfl ((Blk.newAt _ (by simp)).draw) Try.underlying35 rfl info35) rfl (RTPost.mk HE.out rfl (Below.drew (below_two w _ _)))
  · have hn' : 0 ≤ n := by omega
    by_cases hf : o < n
    · have HE : Kp (settleE ⟨a, b1, c, d, f, g, o⟩ n = 1 ∧ settleS ⟨a, b1, c, d, f, g, o⟩ n = ⟨a, b1, c, d, f, g, o⟩) := ⟨by simp [settleE, settleS, hn, hf]⟩
      clear hn
      go_enter Try.func19, Try.ntmps19
      go_wp2_with fail
      go_region
      go_wp2_with fail
      refine bodyPost_ret (results_tmp_row rfl _ _ (w.heap.size + 1) 35 _ (0, 0) _ _ rfl rfl ((Blk.newAt _ (by simp)).draw) Try.underlying35 rfl info35) rfl (RTPost.mk HE.out rfl (Below.drew (below_two w _ _)))
    · have t1 : n ≤ o := by omega
      by_cases hm : c < wrap64 (wrap64 (g + o) - n)
      · have HE : Kp (settleE ⟨a, b1, c, d, f, g, o⟩ n = 0 ∧ settleS ⟨a, b1, c, d, f, g, o⟩ n = ⟨a, b1, c, d, f, c, 0⟩) := ⟨by simp [settleE, settleS, hn, hf]; omega⟩
        clear hn hf
        go_enter Try.func19, Try.ntmps19
        go_wp2_with fail
        go_region
        go_wp2_with fail
        refine bodyPost_ret (results_tmp_row rfl _ _ (w.heap.size + 1) 35 _ (0, 0) _ _ rfl rfl ((Blk.newAt _ (by simp)).draw) Try.underlying35 rfl info35) rfl (RTPost.mk HE.out rfl (Below.drew (below_two w _ _)))
      · have HE : Kp (settleE ⟨a, b1, c, d, f, g, o⟩ n = 0 ∧ settleS ⟨a, b1, c, d, f, g, o⟩ n = ⟨a, b1, c, d, f, wrap64 (wrap64 (g + o) - n), 0⟩) := ⟨by simp [settleE, settleS, hn, hf]; omega⟩
        have t2 : wrap64 (wrap64 (g + o) - n) ≤ c := by omega
        clear hn hf hm
        go_enter Try.func19, Try.ntmps19
        go_wp2_with fail
        go_region
        go_wp2_with fail
        refine bodyPost_ret (results_tmp_row rfl _ _ (w.heap.size + 1) 35 _ (0, 0) _ _ rfl rfl ((Blk.newAt _ (by simp)).draw) Try.underlying35 rfl info35) rfl (RTPost.mk HE.out rfl (Below.drew (below_two w _ _)))
set_option maxHeartbeats 1600000 in
theorem rtick_any (s : TS) (n : Int) (w : World) (h : 0 ≤ s.b ∧ 0 ≤ s.d ∧ wrap64 s.f = s.f ∧ wrap64 s.g = s.g) :
    Calls Try.prog 13 #[s.val, .int .i64 n] w (RTPost (tickE n) (tickS s n) w) := by
  obtain ⟨a, b1, c, d, f, g, o⟩ := s
  unfold TS.val
  simp only at h
  by_cases hn : n < 0
  · have HE : Kp (tickE n = 1 ∧ tickS ⟨a, b1, c, d, f, g, o⟩ n = ⟨a, b1, c, d, f, g, o⟩) := ⟨by simp [tickE, tickS, hn]⟩
    go_enter Try.func13, Try.ntmps13
    go_wp2_with fail
    go_region
    go_wp2_with fail
    refine bodyPost_ret (results_tmp_row rfl _ _ (w.heap.size + 1) 35 _ (0, 0) _ _ rfl rfl ((Blk.newAt _ (by simp)).draw) Try.underlying35 rfl info35) rfl (RTPost.mk HE.out rfl (Below.drew (below_two w _ _)))
  · have hn' : 0 ≤ n := by omega
    have HE : Kp (tickE n = 0 ∧ tickS ⟨a, b1, c, d, f, g, o⟩ n = ⟨a, b1, c, d, fillV f a b1 n, fillV g c d n, o⟩) := ⟨by simp [tickE, tickS, hn]⟩
    have HP := Kp.mk h
    clear hn h
    go_enter Try.func13, Try.ntmps13
    go_wp2_with fail
    refine (rmore_any f a b1 n _ HP.out.1 HP.out.2.2.1).mono ?_
    rintro r w1 ⟨rfl, rfl⟩
    go_wp2_with fail
    refine (rmore_any g c d n _ HP.out.2.1 HP.out.2.2.2).mono ?_
    rintro r w1 ⟨rfl, rfl⟩
    go_wp2_with fail
    go_region
    go_wp2_with fail
    refine bodyPost_ret (results_tmp_row rfl _ _ (w.heap.size + 1) 35 _ (0, 0) _ _ rfl rfl ((Blk.newAt _ (by simp)).draw) Try.underlying35 rfl info35) rfl (RTPost.mk HE.out rfl (Below.drew (below_two w _ _)))
end Go.Proofs.Ythhdbniliimonaa
