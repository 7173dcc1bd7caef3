/-
  drop by what Break asks; Break.
-/
import Derived.Test.YtfpmmbbbndobiaaRbE
import Derived.Deep.RegionHeld3
namespace Go.Proofs.Ytfpmmbbbndobiaa
open Go.RowKit

theorem splice_left {α : Type} {A B z : List α} {o : Nat} (h : o + z.length ≤ A.length) : splice (A ++ B) o z = splice A o z ++ B := by
  unfold splice
  rw [List.take_append_of_le_length (by omega), List.drop_append_of_le_length h, List.append_assoc, List.append_assoc]
theorem splice_right {α : Type} {A B z : List α} {o : Nat} : splice (A ++ B) (A.length + o) z = A ++ splice B o z := by
  unfold splice
  rw [List.take_length_add_append, Nat.add_assoc, List.drop_length_add_append, List.append_assoc]
theorem cat_splice {α : Type} {f : Nat → List α} {L : Nat} (h : ∀ i, (f i).length = L) {g : List α} (hg : g.length = L) : ∀ {n i : Nat}, i < n → splice (cat f n) (i * L) g = cat (fun j => if j = i then g else f j) n
  | 0, _, hi => by omega
  | n + 1, i, hi => by
    rw [cat, cat]
    by_cases h1 : i < n
    · rw [splice_left (by rw [cat_len h, hg, ← Nat.succ_mul]; exact Nat.mul_le_mul_right L h1), cat_splice h hg h1, if_neg (by omega)]
    · obtain rfl : i = n := by omega
      have e : i * L = (cat f i).length + 0 := by rw [cat_len h]; omega
      rw [e, splice_right, if_pos rfl]
      have e2 : splice (f i) 0 g = g := by
        unfold splice
        rw [List.take_zero, List.drop_of_length_le (by rw [h, hg]; omega)]
        simp
      rw [e2]
      exact congrArg (· ++ g) (cat_congr fun j hj => by rw [if_neg (by omega)])
theorem tc_splice (T : TB) {k : Nat} (hk : k < 64) (o : OW) : splice (tc T) (3 + k * 27) (owc o) = tc (T.putO k o) := by
  unfold tc TB.putO
  have e := splice_right (A := [Value.int .i64 T.self, .int .i64 T.hold, .int .i64 T.life]) (B := cat (fun k => owc (T.off k)) 64 ++ cat (fun d => [.int .i64 (T.way d)]) 8) (o := k * 27) (z := owc o)
  rw [show [Value.int .i64 T.self, Value.int .i64 T.hold, Value.int .i64 T.life].length + k * 27 = 3 + k * 27 from rfl] at e
  rw [e, splice_left (by rw [offs_len, owc_len]; omega), cat_splice (L := 27) (fun _ => owc_len _) (owc_len o) hk]
  refine app_congr (cat_congr fun i _ => ?_)
  by_cases hi : i = k
  · simp only [if_pos hi]
  · simp only [if_neg hi]
theorem Turn.putO {T : TB} {t d n : Nat} {w w' : World} (h : Turn t T.obj w w') (hd : d < 8) (hn : n < 8) (o : OW) : Turn t (T.putO (d * 8 + n) o).obj w (w'.setCells t (3 + d * 216 + n * 27) (owc o)) := by
  have := Turn.cells (owc o) (3 + d * 216 + n * 27) w' (tc T) (by rw [tc_len, owc_len]; omega) h
  rw [show 3 + d * 216 + n * 27 = 3 + (d * 8 + n) * 27 by omega, tc_splice T (by omega) o] at this
  rw [show 3 + d * 216 + n * 27 = 3 + (d * 8 + n) * 27 by omega]
  exact this
abbrev nv (l : List Nat) : List Value := l.map fun d : Nat => Value.int .i64 (d : Int)
theorem info3' : (Try.prog.info? 3).map (fun i => (i.zero, i.size, i.bytes)) = some (some (.int .i64 0), 1, 8) := by kernel_rfl
theorem ownsRow_type {w : World} {B e sz n g : Nat} {v : Value} {xs : List Value} (h : w.ownsRow B e sz v n xs) (hg : v.ownBlock = some g) : ∃ cur, w.heap[g]? = some (.cells cur e (0, 0)) := by
  rcases h.2 with ⟨rfl, hn⟩ | ⟨g', cap, cur, rfl, hb, hg', h1, h2, h3, h4⟩
  · cases hg
  · cases hg
    exact ⟨_, hg'⟩
theorem Blk.grown {w w' : World} {a B e sz n : Nat} {c1 : Array Value} {t1 : TypeId} {f1 : Nat × Nat} {v : Value} {xs : List Value} (h1 : Blk w a (.cells c1 t1 f1)) (h2 : w.ownsRow B e sz v n xs) (hg : w.grownBy w' v.ownBlock) (h : t1 ≠ e) : Blk w' a (.cells c1 t1 f1) :=
  (hg.block _ h1.lt (fun e2 => by
    obtain ⟨cur, hc⟩ := ownsRow_type h2 e2.symm
    rw [show w.heap[a]? = _ from h1] at hc
    injection hc with e
    injection e with _ e
    exact h e)).trans h1
theorem row_turn {w w' : World} {B b e sz : Nat} {v : Value} {n : Nat} {xs : List Value} {cs : Array Value} {t : TypeId} {fr : Nat × Nat} {o : Obj} (h : w.ownsRow B e sz v n xs) (hk : Blk w b (.cells cs t fr)) (ht : t ≠ e) (hT : Turn b o w w') : w'.ownsRow B e sz v n xs := by
  refine h.kept hT.grown ?_
  cases hv : v.ownBlock with
  | none => exact .inl rfl
  | some k =>
    refine .inr fun e => ?_
    obtain ⟨cur, hc⟩ := ownsRow_type h hv
    have e' : k = b := by simpa using e
    subst e'
    rw [show w.heap[k]? = _ from hk] at hc
    injection hc with e
    injection e with _ e
    exact ht e
theorem exec_build {P : Program} {o : Oper} {a : Act} {w : World} (t : TypeId) (parts : Array (Nat × Operand)) (ho : o.op = .build t parts) (ps : Array (Nat × Value)) (hps : (parts.map fun (i, x) => (i, a.eval x)) = ps) (cells : Array Value) (hc : P.built t ps.toList = some cells) : (execOp a.eval o).run P w = .ok (.value (.agg cells)) w := by
  subst hps
  unfold execOp
  simp only [ho, Sem.run_bind, run_build w t _ cells hc, Result.andThen_ok, Sem.run_pure]
/-- What is left of an offer that was taken away. -/
def gone (u : Int) (k : K3) : OW := ⟨false, 0, kn0 0 k0, u, k⟩
theorem built101 (u : Int) (k : K3) : Try.prog.built 101 [(3, .int .i64 u), (4, keyV k)] = some (owc (gone u k)).toArray := by kernel_rfl
def goes (T : TB) (q : Nat → OW → Bool) (d i : Nat) : Bool := (T.off (d * 8 + i)).stands && q i (T.off (d * 8 + i))
def dropI (T : TB) (u : Int) (q : Nat → OW → Bool) (d : Nat) : Nat → TB
  | 0 => T
  | i + 1 => if goes T q d i = true then (dropI T u q d i).putO (d * 8 + i) (gone u (T.off (d * 8 + i)).kn.k) else dropI T u q d i
def lsI (T : TB) (q : Nat → OW → Bool) (d : Nat) (l : List Nat) : Nat → List Nat
  | 0 => l
  | i + 1 => if goes T q d i = true ∧ T.way d = i then lsI T q d l i ++ [d] else lsI T q d l i
def dropD (T : TB) (u : Int) (q : Nat → OW → Bool) : Nat → TB × List Nat
  | 0 => (T, [])
  | d + 1 => ((dropI (dropD T u q d).1 u q d 8).putW d (turnUp (dropI (dropD T u q d).1 u q d 8) d 8), lsI (dropD T u q d).1 q d (dropD T u q d).2 8)
theorem dropI_way (T : TB) (u : Int) (q : Nat → OW → Bool) (d : Nat) : ∀ i, (dropI T u q d i).way = T.way ∧ (dropI T u q d i).hold = T.hold ∧ (dropI T u q d i).self = T.self ∧ (dropI T u q d i).life = T.life
  | 0 => ⟨rfl, rfl, rfl, rfl⟩
  | i + 1 => by
    unfold dropI
    split
    · exact dropI_way T u q d i
    · exact dropI_way T u q d i
theorem dropD_ways {T : TB} (h : T.Ways) (u : Int) (q : Nat → OW → Bool) : ∀ {d : Nat}, d ≤ 8 → (dropD T u q d).1.Ways
  | 0, _ => h
  | d + 1, hd => by
    have h1 := dropD_ways h u q (d := d) (by omega)
    intro i hi
    unfold dropD TB.putW
    simp only
    split
    · have h2 : (((dropI (dropD T u q d).1 u q d 8).way d).toNat) < 8 := by rw [(dropI_way _ _ _ _ 8).1]; have := h1 d (by omega); omega
      have := turnUp_lt h2 (Nat.le_refl 8)
      omega
    · rw [(dropI_way _ _ _ _ 8).1]
      exact h1 i hi
theorem dropD_hold (T : TB) (u : Int) (q : Nat → OW → Bool) : ∀ d, (dropD T u q d).1.hold = T.hold ∧ (dropD T u q d).1.self = T.self ∧ (dropD T u q d).1.life = T.life
  | 0 => ⟨rfl, rfl, rfl⟩
  | d + 1 => by
    unfold dropD TB.putW
    simp only
    have h := dropI_way (dropD T u q d).1 u q d 8
    rw [h.2.1, h.2.2.1, h.2.2.2]
    exact dropD_hold T u q d
theorem lsI_len (T : TB) (q : Nat → OW → Bool) (d : Nat) (l : List Nat) : ∀ i, (lsI T q d l i).length ≤ l.length + i
  | 0 => Nat.le_refl _
  | i + 1 => by
    have := lsI_len T q d l i
    unfold lsI
    split
    · simp; omega
    · omega
theorem dropD_len (T : TB) (u : Int) (q : Nat → OW → Bool) : ∀ d, (dropD T u q d).2.length ≤ d * 8
  | 0 => Nat.le_refl _
  | d + 1 => by
    have := dropD_len T u q d
    have := lsI_len (dropD T u q d).1 q d (dropD T u q d).2 8
    unfold dropD
    simp only
    omega
theorem breakq_any (next : Int) (n : Int) (o : OW) (B : Nat) (w : World) (h : Blk w B (.cells #[.int .i64 next] 3)) : Calls Try.prog 53 #[.int .i64 n, .agg (owc o).toArray, .pointer (some ⟨B, 0, none⟩)] w fun r w' => r = .returned (.bool (n == next)) ∧ Below w.heap.size w w' := by
  have hA := fun (w : World) => box_row (t := 101) (cs := owc o) (info101s o) w
  have c0 : (w.alloc o.obj).cell? ⟨B, 0, none⟩ = some (.int .i64 next) := (h.old _).one.1
  have HB : Kp (Below w.heap.size w (w.alloc o.obj)) := ⟨more (Below.refl _ _) _⟩
  clear h
  go_enter Try.func53, Try.ntmps53
  go_wp2_with (refine wpList_box_eq rfl 101 (.tmp 1) rfl _ rfl _ _ (hA _) ?_)
  go_ret
  exact ⟨rfl, HB.out⟩
theorem sum_in {a b : Int} (h : tmB a = true) (hb : 0 ≤ b ∧ b ≤ 1048576) : IntKind.i64.wrap (a + b) = a + b := by
  have : 0 ≤ a ∧ a ≤ 1099511627776 := by simpa [tmB] using h
  exact IntWalk.i64_in _ (by omega)
end Go.Proofs.Ytfpmmbbbndobiaa
