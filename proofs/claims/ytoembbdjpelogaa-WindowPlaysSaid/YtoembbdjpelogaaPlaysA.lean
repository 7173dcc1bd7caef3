/-
  The contracts of the document's window: Fresh and Take over a list of all that was taken.
-/
import Derived.Test.YtoembbdjpelogaaOnceO
namespace Go.Proofs.Ytoembbdjpelogaa
open Go.RowKit

/-- What the document's window answers on freshness. -/
def freshL (size wb top : Nat) (l : List Nat) (boot count : Nat) : Bool :=
  if boot = 0 ∨ count = 0 ∨ boot < wb then false else if wb < boot ∨ top < count then true else decide (top - count < size) && !l.contains count

/-- The slice v holds the numbers l. -/
def HoldsL (w : World) (v : Value) (l : List Nat) : Prop :=
  ∃ a cap, v = .slice a l.length cap ∧ (0 < l.length → ∃ b off, a = some ⟨b, off, none⟩ ∧ ∀ i, i < l.length → w.cell? ⟨b, off + i, none⟩ = some (.int .u64 (l.getD i 0)))

theorem contains_at {l : List Nat} {k count : Nat} (hk : k < l.length) (h : l.getD k 0 = count) : l.contains count = true := by
  rw [List.contains_iff_mem]
  rw [List.getD_eq_getElem?_getD, List.getElem?_eq_getElem hk] at h
  simp at h
  rw [← h]
  exact List.getElem_mem hk
theorem contains_not {l : List Nat} {count : Nat} (h : ∀ j, j < l.length → l.getD j 0 ≠ count) : l.contains count = false := by
  rw [Bool.eq_false_iff]
  intro hc
  have hc := List.contains_iff_mem.1 hc
  obtain ⟨j, hj, he⟩ := List.getElem_of_mem hc
  exact h j hj (by rw [List.getD_eq_getElem?_getD, List.getElem?_eq_getElem hj]; simpa using he)

set_option maxRecDepth 100000 in
set_option maxHeartbeats 1600000 in
theorem freshL_any (size wb top : Nat) (l : List Nat) (v : Value) (boot count : Nat) (w : World) (hl : l.length ≤ 1000) (hv : HoldsL w v l) (hs : size ≤ 64) (h2 : top ≤ 18446744073709551615) :
    Calls Try.prog 39 #[.agg #[.int .i64 size, .int .u64 wb, .int .u64 top, v], .int .u64 boot, .int .u64 count] w fun r w' => r = .returned (.bool (freshL size wb top l boot count)) ∧ Below w.heap.size w w' := by
  obtain ⟨a, cap, rfl, ha⟩ := hv
  have HA := Lib.hid ha
  clear ha
  by_cases b0 : boot = 0
  · have HV : Hid (freshL size wb top l boot count = false) := by unfold Hid; simp [freshL, b0]
    have t0 : ((boot : Int) == 0) = true := by simp [b0]
    clear b0
    go_enter Try.func39, Try.ntmps39
    go_wp2_with fail
    go_ret
    exact ⟨retb HV.out.symm, more (Below.refl _ _) _⟩
  · have t0 : ((boot : Int) == 0) = false := by simp [b0]
    by_cases b1 : count = 0
    · have HV : Hid (freshL size wb top l boot count = false) := by unfold Hid; simp [freshL, b1]
      have t1 : ((count : Int) == 0) = true := by simp [b1]
      clear b0 b1
      go_enter Try.func39, Try.ntmps39
      go_wp2_with fail
      go_ret
      exact ⟨retb HV.out.symm, more (Below.refl _ _) _⟩
    · have t1 : ((count : Int) == 0) = false := by simp [b1]
      by_cases b2 : boot < wb
      · have HV : Hid (freshL size wb top l boot count = false) := by unfold Hid; simp [freshL, b2]
        have t2 : (boot : Int) < wb := by omega
        clear b0 b1 b2
        go_enter Try.func39, Try.ntmps39
        go_wp2_with fail
        go_ret
        exact ⟨retb HV.out.symm, more (Below.refl _ _) _⟩
      · by_cases b3 : wb < boot
        · have HV : Hid (freshL size wb top l boot count = true) := by unfold Hid; simp [freshL, b0, b1, b2, b3]
          have t3 : (wb : Int) < boot := by omega
          clear b0 b1 b2 b3
          go_enter Try.func39, Try.ntmps39
          go_wp2_with fail
          go_ret
          exact ⟨retb HV.out.symm, more (Below.refl _ _) _⟩
        · obtain rfl : boot = wb := by omega
          by_cases b4 : top < count
          · have HV : Hid (freshL size boot top l boot count = true) := by unfold Hid; simp [freshL, b0, b1, b4]
            have t4 : (top : Int) < count := by omega
            clear b0 b1 b2 b3 b4
            go_enter Try.func39, Try.ntmps39
            go_wp2_with fail
            go_ret
            exact ⟨retb HV.out.symm, more (Below.refl _ _) _⟩
          · have t4 : (count : Int) ≤ top := by omega
            have h1 : 0 ≤ (top : Int) := by omega
            by_cases b5 : top - count < size
            · have t5 : (top : Int) - count < size := by omega
              have hv' : freshL size boot top l boot count = !l.contains count := by simp [freshL, b0, b1, b4, b5]
              have HV := Lib.hid hv'
              clear b0 b1 b2 b3 b4 b5 hv'
              go_enter Try.func39, Try.ntmps39
              go_wp2_with fail
              go_loop [7] (fun i => ∃ k : Nat, k ≤ l.length ∧ i = .int .i64 k ∧ Hid (∀ j, j < k → l.getD j 0 ≠ count)) (fun i => l.length - (intOf i).toNat)
              case atStart => exact ⟨0, Nat.zero_le _, rfl, fun j hj => by omega⟩
              case round =>
                obtain ⟨k, hk, rfl, hno⟩ := hrel
                by_cases hlt : k < l.length
                · obtain ⟨b, off, rfl, hc⟩ := HA.out (by omega)
                  have hck := hc k hlt
                  have hbl := World.block_lt_of_cell? w _ hck
                  clear hc
                  have hx : Hid (l.getD k 0 = l.getD k 0) := rfl
                  generalize hgx : l.getD k 0 = x at hck
                  have HX := Lib.hid hgx
                  clear hgx hx
                  by_cases hxc : x = count
                  · have t6 : ((x : Int) == (count : Int)) = true := by simp [hxc]
                    have HC := Lib.hid hxc
                    clear hxc
                    go_wp2_with fail
                    go_ret
                    exact ⟨retb (by rw [HV.out, contains_at hlt (HX.out.trans HC.out)]; rfl), more (Below.refl _ _) _⟩
                  · have t6 : ((x : Int) == (count : Int)) = false := by simp; omega
                    have HC := Lib.hid hxc
                    clear hxc
                    go_wp2_with fail
                    refine ⟨⟨k + 1, by omega, by go_num, fun j hj => ?_⟩, by simp [intOf]; omega⟩
                    by_cases hjk : j < k
                    · exact hno.out j hjk
                    · obtain rfl : j = k := by omega
                      rw [HX.out]
                      exact HC.out
                · obtain rfl : k = l.length := by omega
                  go_wp2_with fail
                  go_ret
                  exact ⟨retb (by rw [HV.out, contains_not hno.out]; rfl), more (Below.refl _ _) _⟩
            · have t5 : (size : Int) ≤ (top : Int) - count := by omega
              have HV : Hid (freshL size boot top l boot count = false) := by unfold Hid; simp [freshL, b0, b1, b4, b5]
              clear b0 b1 b2 b3 b4 b5
              go_enter Try.func39, Try.ntmps39
              go_wp2_with fail
              go_ret
              exact ⟨retb HV.out.symm, more (Below.refl _ _) _⟩

def takeLR (size wb top : Nat) (l : List Nat) (boot count : Nat) : Nat := if boot = 0 ∨ count = 0 then 1 else if freshL size wb top l boot count = true then 0 else 25
def takeLB (size wb top : Nat) (l : List Nat) (boot count : Nat) : Nat := if takeLR size wb top l boot count = 0 then boot else wb
def takeLT (size wb top : Nat) (l : List Nat) (boot count : Nat) : Nat := if takeLR size wb top l boot count = 0 then (if wb < boot then count else if top < count then count else top) else top
def takeLL (size wb top : Nat) (l : List Nat) (boot count : Nat) : List Nat := if takeLR size wb top l boot count = 0 then (if wb < boot then [count] else l ++ [count]) else l

/-- A slice in a block that is not older than B. -/
def NewAt (B : Nat) (v : Value) : Prop := ∃ g n c, v = .slice (some ⟨g, 0, none⟩) n c ∧ B ≤ g
def TakeLPost (size wb top : Nat) (l : List Nat) (v0 : Value) (boot count : Nat) (w : World) (r : Ending) (w' : World) : Prop :=
  ∃ v, (v = v0 ∨ NewAt w.heap.size v) ∧ r = .returned (.tuple #[.int .i64 (takeLR size wb top l boot count : Nat), .agg #[.int .i64 size, .int .u64 (takeLB size wb top l boot count : Nat), .int .u64 (takeLT size wb top l boot count : Nat), v]]) ∧
    HoldsL w' v (takeLL size wb top l boot count) ∧ Below w.heap.size w w'

theorem HoldsL.keep {w w' : World} {v : Value} {l : List Nat} (h : HoldsL w v l) (hb : Below w.heap.size w w') : HoldsL w' v l := by
  obtain ⟨a, cap, rfl, ha⟩ := h
  refine ⟨a, cap, rfl, fun h0 => ?_⟩
  obtain ⟨b, off, rfl, hc⟩ := ha h0
  refine ⟨b, off, rfl, fun i hi => ?_⟩
  have := hc i hi
  rw [hb.cell (p := ⟨b, off + i, none⟩) (World.block_lt_of_cell? w _ this)]
  exact this
theorem HoldsL.keepTurn {w w' : World} {v : Value} {l : List Nat} {b0 : Nat} {o : Obj} (h : HoldsL w v l) (hb : Turn b0 o w w') (hne : ∀ a n c, v = .slice (some a) n c → a.block ≠ b0) : HoldsL w' v l := by
  obtain ⟨a, cap, rfl, ha⟩ := h
  refine ⟨a, cap, rfl, fun h0 => ?_⟩
  obtain ⟨b, off, rfl, hc⟩ := ha h0
  exact ⟨b, off, rfl, fun i hi => hb.cell (hne _ _ _ rfl) (hc i hi)⟩

theorem TakeLPost.mk {size wb top : Nat} {l : List Nat} {v0 : Value} {boot count r b t : Nat} {l' : List Nat} {w w' : World} {v : Value} (hn : v = v0 ∨ NewAt w.heap.size v) (h1 : takeLR size wb top l boot count = r) (h2 : takeLB size wb top l boot count = b) (h3 : takeLT size wb top l boot count = t)
    (h4 : takeLL size wb top l boot count = l') (hh : HoldsL w' v l') (hb : Below w.heap.size w w') :
    TakeLPost size wb top l v0 boot count w (.returned (.tuple #[.int .i64 (r : Nat), .agg #[.int .i64 size, .int .u64 (b : Nat), .int .u64 (t : Nat), v]])) w' := by
  subst h1 h2 h3 h4
  exact ⟨v, hn, rfl, hh, hb⟩

end Go.Proofs.Ytoembbdjpelogaa
