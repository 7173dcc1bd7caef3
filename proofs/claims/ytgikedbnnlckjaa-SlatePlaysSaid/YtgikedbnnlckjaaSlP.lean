/-
  SlateLasts: what its loops keep.
-/
import Derived.Test.YtgikedbnnlckjaaSlO
import Derived.ArgAppend
import Derived.OwnWalk
namespace Go.Proofs.Ytgikedbnnlckjaa
open Go.RowKit

/-- append to a row of the call's own, and in which block what comes of it lies. -/
theorem wpList_append_own2 {P : Program} {w : World} {ops : Array Oper} {rest : List Oper} {o : Oper} {a : Act} {Q : Exit → Act → World → Prop} (hgd : o.guard = none) (s x : Operand) (t : TypeId)
    (ho : o.op = .call { callee := .builtin .append, args := #[s, x], argTypes := #[t, t] })
    (base : Nat) (e : TypeId) (i : TypeInfo) (z : Value) (size bytes : Nat) (ht : P.underlying t = some (.slice e)) (hi : P.info? e = some i) (hz : i.zero = some z)
    (hsize : i.size = size) (hby : i.bytes = bytes) (hzs : z.cells.size = size) (hsz : 0 < size)
    (v : Value) (n : Nat) (xs : List Value) (hs : a.eval s = v) (hown : w.ownsRow base e size v n xs)
    (ad : Addr) (m c : Nat) (news : List Value) (hx : a.eval x = .slice (some ad) m c) (hl : news.length = m * size) (hnews : ∀ j u, news[j]? = some u → w.cell? (ad.add j) = some u) (h1 : ∀ u ∈ news, u.oneCell' = true)
    (h63 : n + m ≤ maxLen) (hbytes : (n + m) * bytes ≤ 140737488355328) (hbase : base ≤ w.heap.size)
    (h : ∀ v' w', w'.ownsRow base e size v' (n + m) (xs ++ news) → w.grownBy w' v.ownBlock → (∀ k, v'.ownBlock = some k → v.ownBlock = some k ∨ w.heap.size ≤ k) → wpList P ops Q rest (a.put o.dst v') w') : wpList P ops Q (o :: rest) a w := by
  have hv := hown.2
  rcases hv with ⟨hv, h0⟩ | ⟨g, cap, cur, hv, hg, hh, hn, hc, hsz2, htk⟩
  · subst h0
    have hxs : xs = [] := List.eq_nil_of_length_eq_zero (by simpa using hown.1)
    subst hxs
    refine wpList_plain hgd fun K hK => ?_
    rw [hv] at hs
    obtain ⟨v', w', hrun, r1, r2, _⟩ := run_append_own (P := P) w w.heap.size t o.type e i z size bytes ht hi hz hsize hby hzs hsz (.slice none 0 0) 0 [] (World.ownsRow_nil w _ e size) ad m c news hl hnews h1 h63 hbytes (Nat.le_refl _)
    unfold Oper.wp
    simp [execOp, ho, resolve, invoke, builtin, hs, hx, hrun, Result.andThen]
    refine hK _ _ (h v' w' (ownsRow_base r1 hbase) (by rw [hv]; exact r2) fun k hk => .inr (r1.lt k hk).1)
  · subst hv
    by_cases hroom : n + m ≤ cap
    · refine wpList_append_fits w hgd s x t ho base e i size ht hi hsize g n cap xs hs hown ad m c news hx hl hnews h1 hroom fun w' h2 h3 => ?_
      exact h _ w' h2 h3 fun k hk => .inl hk
    · refine wpList_append_grows w hgd s x t ho e i z size bytes ht hi hz hsize hby hzs hsz (some ⟨g, 0, none⟩) n cap xs hs (fun e => by cases e) hown.1 (fun b hb => by cases hb; exact hown.cells rfl) ad m c news hx hl hnews h1 (by omega) h63 hbytes fun v' w' h2 h3 => ?_
      exact h v' w' (ownsRow_base h2 hbase) ⟨h3.os, h3.tape, h3.output, h3.size, fun k hk _ => h3.block k hk (by simp)⟩ fun k hk => .inr (h2.lt k hk).1


theorem wpList_buildSlice_one {P : Program} {ops : Array Oper} {rest : List Oper} {o : Oper} {a : Act} {w : World} {Q : Exit → Act → World → Prop} (hg : o.guard = none) (t : TypeId) (len : Nat) (x : Operand) (ho : o.op = .buildSlice t len #[(0, x)])
    (u : Value) (hx : a.eval x = u) (v : Value) (w' : World) (hrun : (Instr.buildSlice t len #[(0, u)]).run P w = .ok v w') (h : wpList P ops Q rest (a.put o.dst v) w') : wpList P ops Q (o :: rest) a w :=
  wpList_plain hg fun _ hK => wp_buildSlice_one t len x ho u hx v w' hrun (hK _ _ h)
def lcells (ll : List OpV) : List Value := (ll.map ocells).flatten
theorem ocells_len {o : OpV} (h : o.to.length = 64) : (ocells o).length = 67 := by simp [ocells, h]
theorem ocells_one (o : OpV) : ∀ u ∈ ocells o, u.oneCell' = true := fun u hu => by
  unfold ocells at hu
  rcases List.mem_cons.1 hu with rfl | h
  · rfl
  · rcases List.mem_cons.1 h with rfl | h
    · rfl
    · rcases List.mem_cons.1 h with rfl | h
      · rfl
      · obtain ⟨n, _, rfl⟩ := List.mem_map.1 h
        rfl
theorem lcells_add (ll : List OpV) (o : OpV) : lcells (ll ++ [o]) = lcells ll ++ ocells o := by simp [lcells]
theorem lcells_len {ll : List OpV} (h : ∀ o ∈ ll, o.to.length = 64) : (lcells ll).length = ll.length * 67 := by
  induction ll with
  | nil => rfl
  | cons x r ih =>
    have h1 := h x (by simp)
    have e : lcells (x :: r) = ocells x ++ lcells r := by simp [lcells]
    rw [e, List.length_append, ocells_len h1, ih (fun y hy => h y (by simp [hy])), List.length_cons]
    omega
theorem lcells_at {ll : List OpV} (h : ∀ o ∈ ll, o.to.length = 64) {i : Nat} (hi : i < ll.length) {j : Nat} {u : Value} (hu : (ocells ll[i])[j]? = some u) : (lcells ll)[i * 67 + j]? = some u := by
  induction ll generalizing i with
  | nil => cases hi
  | cons x r ih =>
    have h1 := ocells_len (h x (by simp))
    have e : lcells (x :: r) = ocells x ++ lcells r := by simp [lcells]
    rw [e]
    cases i with
    | zero =>
      have hj := (List.getElem?_eq_some_iff.1 hu).1
      simp only [List.getElem_cons_zero] at hj
      rw [Nat.zero_mul, Nat.zero_add, List.getElem?_append_left hj]
      simpa using hu
    | succ i =>
      rw [List.getElem?_append_right (by rw [h1]; omega), h1, show (i + 1) * 67 + j - 67 = i * 67 + j by omega]
      exact ih (fun y hy => h y (by simp [hy])) (by simpa using hi) (by simpa using hu)
theorem list64o {l : List Int} (h : l.length = 64) : ∃ f : Nat → Int, l = (List.range 64).map f := list64 h
def z32 : List Value := [.int .i64 0, .int .i64 0, .int .i64 0] ++ List.replicate 64 (.int .u8 0)
theorem z32_len : z32.length = 67 := by simp [z32]
theorem infoz32 : (Try.prog.info? 32).map (fun i => (i.zero, i.size)) = some (some (.agg z32.toArray), 67) := by kernel_rfl
theorem info32 : (Try.prog.info? 32).map (fun i => (i.zero, i.size, i.bytes)) = some (some (.agg z32.toArray), 67, 88) := by kernel_rfl
theorem info32s : (Try.prog.info? 32).map (·.size) = some 67 := by kernel_rfl
theorem info30s : (Try.prog.info? 30).map (·.size) = some 64 := by kernel_rfl
theorem build22 {o : OpV} (h : o.to.length = 64) (w : World) : (Instr.buildSlice 22 1 #[(0, .agg (ocells o).toArray)]).run Try.prog w = .ok (.slice (some ⟨w.heap.size, 0, none⟩) 1 1) (w.alloc (.cells (ocells o).toArray 32)) := by
  obtain ⟨k, a, n, z⟩ := o
  obtain ⟨f, rfl⟩ := list64 h
  kernel_rfl
theorem infoz41 : (Try.prog.info? 41).map (fun i => (i.zero, i.size)) = some (some (.agg (kv .u8 (List.replicate 320 0)).toArray), 320) := by kernel_rfl

/-- A row of steps of the call's own. -/
theorem ownsRow_same {w w' : World} {B e sz n : Nat} {v : Value} {xs : List Value} (h : w.ownsRow B e sz v n xs) (hs : ∀ k, v.ownBlock = some k → w'.heap[k]? = w.heap[k]?) : w'.ownsRow B e sz v n xs := by
  obtain ⟨h1, h2⟩ := h
  refine ⟨h1, ?_⟩
  rcases h2 with ⟨rfl, hn⟩ | ⟨g, cap, cur, rfl, a1, a2, a3, a4, a5, a6⟩
  · exact .inl ⟨rfl, hn⟩
  · exact .inr ⟨g, cap, cur, rfl, a1, (hs g rfl).trans a2, a3, a4, a5, a6⟩
theorem ownsRow_type {w : World} {B e sz n : Nat} {v : Value} {xs : List Value} (h : w.ownsRow B e sz v n xs) {k : Nat} (hk : v.ownBlock = some k) : ∃ cur, w.heap[k]? = some (.cells cur e (0, 0)) := by
  rcases h.2 with ⟨rfl, _⟩ | ⟨g, cap, cur, rfl, a1, a2, a3, a4, a5, a6⟩
  · cases hk
  · cases hk
    exact ⟨cur, a2⟩
theorem own_at {w : World} {B : Nat} {v : Value} {ll : List OpV} (h : w.ownsRow B 32 67 v ll.length (lcells ll)) (ho : ∀ o ∈ ll, o.to.length = 64) {i : Nat} (hi : i < ll.length) : ∃ lb cap, v = .slice (some ⟨lb, 0, none⟩) ll.length cap ∧ B ≤ lb ∧ lb < w.heap.size ∧ w.rangeAt lb (i * 67) (ocells ll[i]) := by
  rcases h.2 with ⟨_, hn⟩ | ⟨g, cap, cur, rfl, a1, a2, a3, a4, a5, a6⟩
  · omega
  · refine ⟨g, cap, rfl, a1, (Array.getElem?_eq_some_iff.1 a2).1, fun j u hu => ?_⟩
    have hh : i * 67 + j < ll.length * 67 := by
      have := (List.getElem?_eq_some_iff.1 hu).1
      rw [ocells_len (ho _ (List.getElem_mem hi))] at this
      omega
    have h9 := h.cellAt (i * 67 + j) hh
    rw [h9]
    exact lcells_at ho hi hu
/-- A step on a device leaves what isn't its own. -/
theorem SlStep.obj {g : Nat} {v v' : Value} {s s' : SlS} {w w' : World} (h : SlStep g v v' s' w w') (hs : SlIs w g v s) {k : Nat} {cs : Array Value} {t : TypeId} {fr : Nat × Nat} (hk : w.heap[k]? = some (.cells cs t fr)) (h1 : t ≠ 35) (h2 : t ≠ 72) (h3 : t ≠ 82) : w'.heap[k]? = w.heap[k]? := by
  refine h.other k (Array.getElem?_eq_some_iff.1 hk).1 ?_ ?_ ?_
  · rintro rfl
    have e : w.heap[k]? = _ := hs.r
    rw [hk] at e
    injection e with e
    injection e with _ e
    exact h1 e
  · rintro rfl
    have e : w.heap[g + 1]? = _ := hs.b
    rw [hk] at e
    injection e with e
    injection e with _ e
    exact h2 e
  · intro e
    obtain ⟨cur, e⟩ := ownsRow_type hs.o e
    rw [hk] at e
    injection e with e
    injection e with _ e
    exact h3 e
theorem SlStep.ownK {g B n : Nat} {v v' v6 : Value} {s s' : SlS} {w w' : World} {xs : List Value} (h : SlStep g v v' s' w w') (hs : SlIs w g v s) (ho : w.ownsRow B 32 67 v6 n xs) : w'.ownsRow B 32 67 v6 n xs :=
  ownsRow_same ho fun k hk => by
    obtain ⟨cur, e⟩ := ownsRow_type ho hk
    exact h.obj hs e (by decide) (by decide) (by decide)
theorem SlStep.rowK {g NB : Nat} {v v' : Value} {s s' : SlS} {w w' : World} {l : List Int} (h : SlStep g v v' s' w w') (hs : SlIs w g v s) (ho : Row w NB 41 .u8 l) : Row w' NB 41 .u8 l := (h.obj hs ho (by decide) (by decide) (by decide)).trans ho
theorem SlStep.blkK {g k : Nat} {v v' : Value} {s s' : SlS} {w w' : World} {cs : Array Value} (h : SlStep g v v' s' w w') (hs : SlIs w g v s) (ho : Blk w k (.cells cs 32)) : Blk w' k (.cells cs 32) := (h.obj hs ho (by decide) (by decide) (by decide)).trans ho
/-- .. and a turn of the row of sectors leaves a device. -/
theorem SlIs.turnN {g NB : Nat} {v : Value} {s : SlS} {w w' : World} {l : List Int} {o : Obj} (h : SlIs w g v s) (hr : Row w NB 41 .u8 l) (hT : Turn NB o w w') : SlIs w' g v s := by
  have n1 : g ≠ NB := by
    rintro rfl
    have e : w.heap[g]? = _ := h.r
    rw [show w.heap[g]? = _ from hr] at e
    injection e with e
    injection e with _ e
    cases e
  have n2 : g + 1 ≠ NB := by
    rintro rfl
    have e : w.heap[g + 1]? = _ := h.b
    rw [show w.heap[g + 1]? = _ from hr] at e
    injection e with e
    injection e with _ e
    cases e
  refine ⟨hT.keep h.b n2, hT.keep h.r n1, ownsRow_same h.o fun k hk => ?_, h.k⟩
  obtain ⟨cur, e⟩ := ownsRow_type h.o hk
  refine hT.other k (Array.getElem?_eq_some_iff.1 e).1 ?_
  rintro rfl
  rw [show w.heap[k]? = _ from hr] at e
  injection e with e
  injection e with _ e
  cases e
theorem own_turnN {B NB n : Nat} {v : Value} {xs : List Value} {w w' : World} {l : List Int} {o : Obj} (h : w.ownsRow B 32 67 v n xs) (hr : Row w NB 41 .u8 l) (hT : Turn NB o w w') : w'.ownsRow B 32 67 v n xs :=
  ownsRow_same h fun k hk => by
    obtain ⟨cur, e⟩ := ownsRow_type h hk
    refine hT.other k (Array.getElem?_eq_some_iff.1 e).1 ?_
    rintro rfl
    rw [show w.heap[k]? = _ from hr] at e
    injection e with e
    injection e with _ e
    cases e
/-- What stands at the head of a round. -/
structure LInv (B NB g : Nat) (w0 w : World) (v v6 : Value) (s : SlS) (ll : List OpV) (k : Nat) : Prop where
  is : SlIs w g v s
  row : Row w NB 41 .u8 s.ls
  own : w.ownsRow B 32 67 v6 ll.length (lcells ll)
  n5 : s.n = 5
  q : s.q = ll.map fun o => (o.at_.toNat, o.to)
  oo : ∀ o ∈ ll, o.to.length = 64 ∧ Bytes o.to ∧ 0 ≤ o.at_ ∧ o.at_ < 5
  st : s.st ≤ k
  lk : ll.length ≤ k
  gB : B ≤ g
  nB : B ≤ NB
  below : Below B w0 w
theorem LInv.ql {B NB g : Nat} {w0 w : World} {v v6 : Value} {s : SlS} {ll : List OpV} {k : Nat} (h : LInv B NB g w0 w v v6 s ll k) : s.q.length = ll.length := by rw [h.q, List.length_map]
theorem LInv.keep {B NB g : Nat} {w0 w w' : World} {v v6 : Value} {s : SlS} {ll : List OpV} {k : Nat} (h : LInv B NB g w0 w v v6 s ll k) (hb : Below w.heap.size w w') : LInv B NB g w0 w' v v6 s ll k :=
  ⟨h.is.keep hb, h.row.keep hb, ownsRow_below h.own hb, h.n5, h.q, h.oo, h.st, h.lk, h.gB, h.nB, h.below.trans (hb.mono (by have := h.row.lt; have := h.nB; omega))⟩
theorem LInv.more {B NB g : Nat} {w0 w : World} {v v6 : Value} {s : SlS} {ll : List OpV} {k : Nat} (h : LInv B NB g w0 w v v6 s ll k) : LInv B NB g w0 w v v6 s ll (k + 1) :=
  ⟨h.is, h.row, h.own, h.n5, h.q, h.oo, by have := h.st; omega, by have := h.lk; omega, h.gB, h.nB, h.below⟩
/-- A step on the device that leaves sectors and writes. -/
theorem LInv.dev {B NB g : Nat} {w0 w w' : World} {v v' v6 : Value} {s s' : SlS} {ll : List OpV} {k : Nat} (h : LInv B NB g w0 w v v6 s ll k) (hs : SlStep g v v' s' w w') (e1 : s'.ls = s.ls) (e2 : s'.q = s.q) (e3 : s'.n = s.n) (e4 : s'.st ≤ s.st + 1) : LInv B NB g w0 w' v' v6 s' ll (k + 1) :=
  ⟨hs.is, by rw [e1]; exact hs.rowK h.is h.row, hs.ownK h.is h.own, e3.trans h.n5, e2.trans h.q, h.oo, by have := h.st; omega, by have := h.lk; omega, h.gB, h.nB,
    h.below.trans (hs.below h.gB (by have := h.row.lt; have := h.nB; omega) (fun j hj => by have := (h.is.o.lt j hj).1; have := h.gB; omega))⟩
theorem LInv.slice {B NB g : Nat} {w0 w : World} {v v6 : Value} {s : SlS} {ll : List OpV} {k : Nat} (h : LInv B NB g w0 w v v6 s ll k) : ∃ a c, v6 = .slice a ll.length c := by
  rcases h.own.2 with ⟨rfl, hn⟩ | ⟨g', cap, cur, rfl, _⟩
  · exact ⟨none, 0, by rw [hn]⟩
  · exact ⟨_, cap, rfl⟩
theorem stepS_more (s : SlS) : (stepS s).st ≤ s.st + 1 := by
  unfold stepS
  split <;> simp <;> omega
theorem fuseS_same (s : SlS) (n : Int) : (fuseS s n).ls = s.ls ∧ (fuseS s n).q = s.q ∧ (fuseS s n).n = s.n ∧ (fuseS s n).st = s.st := by
  unfold fuseS
  split <;> exact ⟨rfl, rfl, rfl, rfl⟩
/-- The number of a sector, out of any number. -/
def mod5 (a : Int) : Int := (a % 18446744073709551616) % 5
theorem mod5_lt (a : Int) : 0 ≤ mod5 a ∧ mod5 a < 5 := by unfold mod5; omega
end Go.Proofs.Ytgikedbnnlckjaa
