/-
  An update's entries; keys; frame.follows.
-/
import Derived.Test.YtgabjmmmiogfjaaDoorFuE
namespace Go.Proofs.YtgabjmmmiogfjaaDoor
open Go.RowKit

/-- An entry: a destination, a key, a leaf, and where the way and the path stand. -/
structure EV where
  (d e s m : Int)
  lf : List Int
  wa : Option Addr
  (wn wc : Nat)
  pa : Option Addr
  (pn pc : Nat)
/-- Its cells. -/
def ec (x : EV) : List Value := [.int .i64 x.d, .int .u32 x.e, .int .u32 x.s, .int .i64 x.m] ++ bv x.lf ++ [.slice x.wa x.wn x.wc, .slice x.pa x.pn x.pc]
abbrev ecV (x : EV) : Value := .agg (ec x).toArray
theorem ec_len {x : EV} (h : x.lf.length = 16) : (ec x).length = 22 := by simp [ec, h]
theorem ec_0 (x : EV) : (ec x)[0]? = some (.int .i64 x.d) := rfl
theorem ec_1 (x : EV) : (ec x)[1]? = some (.int .u32 x.e) := rfl
theorem ec_2 (x : EV) : (ec x)[2]? = some (.int .u32 x.s) := rfl
theorem ec_3 (x : EV) : (ec x)[3]? = some (.int .i64 x.m) := rfl
theorem ec_20 {x : EV} (h : x.lf.length = 16) : (ec x)[20]? = some (.slice x.wa x.wn x.wc) := by simp [ec, List.getElem?_append, h]
theorem ec_21 {x : EV} (h : x.lf.length = 16) : (ec x)[21]? = some (.slice x.pa x.pn x.pc) := by simp [ec, List.getElem?_append, h]
theorem ec_lf {x : EV} (h : x.lf.length = 16) : ((ec x).drop 4).take 16 = bv x.lf := by
  show List.take 16 (bv x.lf ++ [.slice x.wa x.wn x.wc, .slice x.pa x.pn x.pc]) = bv x.lf
  rw [List.take_left' (by simp [h])]
/-- Key and Right. -/
def krB (e s m : Int) : Bool := decide (e ≤ 65536 ∧ s < 64 ∧ 0 ≤ m ∧ m ≤ 15)
theorem kright_any (e s m : Int) (w : World) :
    Calls Tryd.prog 87 #[.agg #[.int .u32 e, .int .u32 s, .int .i64 m]] w fun r w' => r = .returned (.bool (krB e s m)) ∧ Below w.heap.size w w' := by
  go_enter Tryd.func87, Tryd.ntmps87
  go_wp2
  all_goals (go_ret; refine ⟨retb (Bool.eq_iff_iff.2 ?_), more (Below.refl _ _) _⟩)
  all_goals (unfold krB; simp only [decide_eq_true_eq, Bool.false_eq_true, false_iff]; omega)
theorem rkright_any (e s m : Int) (w : World) :
    Calls Tryd.prog 56 #[.agg #[.int .u32 e, .int .u32 s, .int .i64 m]] w fun r w' => r = .returned (.bool (krB e s m)) ∧ Below w.heap.size w w' := by
  go_enter Tryd.func56, Tryd.ntmps56
  go_wp2
  all_goals (go_ret; refine ⟨retb (Bool.eq_iff_iff.2 ?_), more (Below.refl _ _) _⟩)
  all_goals (unfold krB; simp only [decide_eq_true_eq, Bool.false_eq_true, false_iff]; omega)
theorem kto_any (e s m : Int) (w : World) :
    Calls Tryd.prog 53 #[.agg #[.int .u32 e, .int .u32 s, .int .i64 m]] w fun r w' => r = .returned (.agg #[.int .u32 e, .int .u32 s, .int .i64 m]) ∧ Below w.heap.size w w' := by
  go_enter Tryd.func53, Tryd.ntmps53
  go_wp2
  refine bodyPost_ret (v := .agg #[.int .u32 e, .int .u32 s, .int .i64 m]) (by simp [results, Tryd.results53, go_sem]) rfl ⟨rfl, more (more (Below.refl _ _) _) _⟩
theorem kfrom_any (e s m : Int) (w : World) :
    Calls Tryd.prog 67 #[.agg #[.int .u32 e, .int .u32 s, .int .i64 m]] w fun r w' => r = .returned (.agg #[.int .u32 e, .int .u32 s, .int .i64 m]) ∧ Below w.heap.size w w' := by
  go_enter Tryd.func67, Tryd.ntmps67
  go_wp2
  refine bodyPost_ret (v := .agg #[.int .u32 e, .int .u32 s, .int .i64 m]) (by simp [results, Tryd.results67, go_sem]) rfl ⟨rfl, more (more (Below.refl _ _) _) _⟩
/-- May an entry be, and stand behind last? -/
def folB (last : Int) (x : EV) : Bool := decide ((0 ≤ x.d ∧ x.d < 8) ∧ last < x.d) && (krB x.e x.s x.m && decide (x.wn ≤ 3 ∧ x.pn ≤ 6))
theorem info115s {x : EV} (h : x.lf.length = 16) : (Tryd.prog.info? 115).map (·.size) = some (ec x).toArray.size := by
  rw [List.size_toArray, ec_len h]
  kernel_rfl
set_option maxRecDepth 100000 in
set_option maxHeartbeats 4000000 in
theorem follows_any (last : Int) (x : EV) (w : World) (hl : x.lf.length = 16) (hwn : x.wn ≤ 1000000) (hpn : x.pn ≤ 1000000) :
    Calls Tryd.prog 50 #[.int .i64 last, ecV x] w fun r w' => r = .returned (.bool (folB last x)) ∧ Below w.heap.size w w' := by
  have hC := fun (w : World) => box_row (t := 115) (cs := ec x) (info115s hl) w
  obtain ⟨A, hA⟩ : ∃ A, A = w.heap.size := ⟨_, rfl⟩
  have HAe := Kp.mk hA
  have HB : Kp (Blk (w.alloc (.cells (ec x).toArray 115)) A (.cells (ec x).toArray 115)) := ⟨Blk.newAt _ hA⟩
  have HE : Kp (Below A w (w.alloc (.cells (ec x).toArray 115))) := ⟨by rw [hA]; exact more (Below.refl _ _) _⟩
  have HL := Kp.mk hl
  have HF : Kp (folB last x = (decide ((0 ≤ x.d ∧ x.d < 8) ∧ last < x.d) && (krB x.e x.s x.m && decide (x.wn ≤ 3 ∧ x.pn ≤ 6)))) := ⟨rfl⟩
  go_enter Tryd.func50, Tryd.ntmps50
  have p0 : (w.alloc (.cells (ec x).toArray 115)).cell? ⟨A, 0, none⟩ = some (.int .i64 x.d) := HB.out.cell 0
  rw [hA] at p0
  go_wp2_with (refine wpList_box_eq rfl 115 (.tmp 1) rfl _ rfl _ _ (hC _) ?_)
  rw [← hA]
  clear hC hA p0
  generalize w.alloc (.cells (ec x).toArray 115) = W at *
  have p0 : W.cell? ⟨A, 0, none⟩ = some (.int .i64 x.d) := HB.out.cell 0
  have p1 : W.cell? ⟨A, 1, none⟩ = some (.int .u32 x.e) := HB.out.cell 1
  have p2 : W.cell? ⟨A, 2, none⟩ = some (.int .u32 x.s) := HB.out.cell 2
  have p3 : W.cell? ⟨A, 3, none⟩ = some (.int .i64 x.m) := HB.out.cell 3
  refine (isNode_any x.d W).mono ?_
  rintro r w1 ⟨rfl, rfl⟩
  by_cases h1 : 0 ≤ x.d ∧ x.d < 8
  · rw [show decide (0 ≤ x.d ∧ x.d < 8) = true from decide_eq_true h1]
    by_cases h2 : last < x.d
    · go_wp2_with fail
      refine (kright_any x.e x.s x.m _).mono ?_
      rintro r w2 ⟨rfl, hb⟩
      have B2 := Kp.mk (HB.out.keep hb)
      have E2 : Kp (Below A w w2) := ⟨HE.out.trans (hb.mono (Nat.le_of_lt HB.out.lt))⟩
      clear hb p0 p1 p2 p3
      cases hk : krB x.e x.s x.m with
      | false =>
        have HX : Kp (folB last x = false) := ⟨by rw [HF.out, hk]; simp⟩
        clear hk
        go_wp2_with fail
        go_ret
        exact ⟨retb HX.out.symm, by rw [← HAe.out]; exact E2.out⟩
      | true =>
        have HX : Kp (folB last x = decide (x.wn ≤ 3 ∧ x.pn ≤ 6)) := ⟨by rw [HF.out, hk, decide_eq_true ⟨h1, h2⟩]; rfl⟩
        have q20 : w2.cell? ⟨A, 20, none⟩ = some (.slice x.wa x.wn x.wc) := (B2.out.cell 20).trans (by rw [List.getElem?_toArray]; exact ec_20 HL.out)
        have q21 : w2.cell? ⟨A, 21, none⟩ = some (.slice x.pa x.pn x.pc) := (B2.out.cell 21).trans (by rw [List.getElem?_toArray]; exact ec_21 HL.out)
        clear hk
        by_cases h3 : x.wn ≤ 3
        · have h3' : (x.wn : Int) ≤ 3 := by omega
          by_cases h4 : x.pn ≤ 6
          · have h4' : (x.pn : Int) ≤ 6 := by omega
            go_wp2_with fail
            go_ret
            exact ⟨retb (by rw [HX.out]; first | (simp [h3, h4]; done) | (simp [h3, h4]; omega)), by rw [← HAe.out]; exact E2.out⟩
          · have h4' : ¬ (x.pn : Int) ≤ 6 := by omega
            go_wp2_with fail
            go_ret
            exact ⟨retb (by rw [HX.out]; first | (simp [h3, h4]; done) | (simp [h3, h4]; omega)), by rw [← HAe.out]; exact E2.out⟩
        · have h3' : ¬ (x.wn : Int) ≤ 3 := by omega
          go_wp2_with fail
          go_ret
          exact ⟨retb (by rw [HX.out]; simp [h3]), by rw [← HAe.out]; exact E2.out⟩
    · have HX : Kp (folB last x = false) := ⟨by rw [HF.out]; simp [h2]⟩
      go_wp2_with fail
      go_ret
      exact ⟨retb HX.out.symm, by rw [← HAe.out]; exact HE.out⟩
  · have HX : Kp (folB last x = false) := ⟨by rw [HF.out]; simp [h1]⟩
    rw [show decide (0 ≤ x.d ∧ x.d < 8) = false from decide_eq_false h1]
    go_wp2_with fail
    go_ret
    exact ⟨retb HX.out.symm, by rw [← HAe.out]; exact HE.out⟩
end Go.Proofs.YtgabjmmmiogfjaaDoor
