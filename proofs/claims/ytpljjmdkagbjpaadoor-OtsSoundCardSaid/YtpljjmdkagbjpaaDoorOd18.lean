/-
  What two ways to one public part have in common: plain lists.
  The law OtsSound, walked: lemmas.
-/
import Derived.Test.YtpljjmdkagbjpaaDoorOd17
namespace Go.Proofs.YtpljjmdkagbjpaaDoor
open Go.RowKit

theorem clash_of {us bs : List (List Int)} {t u : List Int} (ht : t ∈ us) (hu : u ∈ bs) (hs : shortL t = shortL u) (hne : t ≠ u) : ClashP us bs := by
  obtain ⟨i, hi, rfl⟩ := List.getElem_of_mem ht
  obtain ⟨k, hk, rfl⟩ := List.getElem_of_mem hu
  have e1 : us.getD i [] = us[i] := by rw [List.getD_eq_getElem?_getD, List.getElem?_eq_getElem hi]; rfl
  have e2 : bs.getD k [] = bs[k] := by rw [List.getD_eq_getElem?_getD, List.getElem?_eq_getElem hk]; rfl
  exact ⟨i, k, hi, hk, by rw [e1, e2]; exact hs, by rw [e1, e2]; exact hne⟩
theorem runT_mem (d x c f : Int) (z : List Int) {n k : Nat} (h : k < n) : linkT d x c (f + k) (runS d x c f z k) ∈ runT d x c f z n := by
  induction n with
  | zero => omega
  | succ n ih =>
    rw [runT]
    by_cases e : k = n
    · subst e; simp
    · exact List.mem_append_left _ (ih (by omega))
theorem pubTL_mem (s : List Int) (d x : Int) {n c : Nat} (hc : c < n) {t : List Int} (h : t ∈ runT d x c 0 (ownS s d x c 0) 3) : t ∈ pubTL s d x n := by
  induction n with
  | zero => omega
  | succ n ih =>
    rw [pubTL]
    by_cases e : c = n
    · subst e; exact List.mem_append_right _ h
    · exact List.mem_append_left _ (ih (by omega))
theorem recTL_mem (d x : Int) (m : List Int) {S : List Int} (hS : S.length = 1088) (hb : Bytes S) {n c : Nat} (hc : c < n) (hn : n ≤ 68) {t : List Int} (h : t ∈ runT d x c (dgt m c) (linkAt S c) (3 - dgt m c)) : t ∈ recTL d x m S n := by
  induction n with
  | zero => omega
  | succ n ih =>
    rw [recTL]
    by_cases e : c = n
    · subst e
      refine List.mem_append_right _ ?_
      rw [recL_at d x m hS hb c (by omega) c (by omega), if_neg (by omega)]
      exact h
    · exact List.mem_append_left _ (ih (by omega) (by omega))
theorem linkT_inj {d x c s : Int} {z y : List Int} (h : linkT d x c s z = linkT d x c s y) : z = y := by
  unfold linkT at h
  simpa using h
theorem wholeT_inj {d x : Int} {S T : List Int} (h : wholeT d x S = wholeT d x T) : S = T := by
  unfold wholeT at h
  simpa using h
/-- Down one chain. -/
theorem chain_down {s : List Int} {d x : Int} {m S : List Int} (hS : S.length = 1088) (hb : Bytes S) {us bs : List (List Int)} (hu : ∀ c : Nat, c < 68 → ∀ t ∈ runT d x c 0 (ownS s d x c 0) 3, t ∈ us) (hv : ∀ c : Nat, c < 68 → ∀ t ∈ runT d x c (dgt m c) (linkAt S c) (3 - dgt m c), t ∈ bs)
    (hno : ¬ ClashP us bs) {c : Nat} (hc : c < 68) : ∀ k, k ≤ 3 - dgt m c → runS d x c (dgt m c) (linkAt S c) k = runS d x c (dgt m c) (ownS s d x c (dgt m c)) k → linkAt S c = ownS s d x c (dgt m c)
  | 0, _, h => h
  | k + 1, hk, h => by
    have hd := (dgt_is m c).2
    refine chain_down hS hb hu hv hno hc k (by omega) ?_
    apply Classical.byContradiction
    intro hne
    refine hno (clash_of (hu c hc _ (runT_mem d x c 0 (ownS s d x c 0) (n := 3) (k := dgt m c + k) (by omega))) (hv c hc _ (runT_mem d x c (dgt m c) (linkAt S c) (k := k) (by omega))) ?_ ?_)
    · have e := runS_add d x c 0 (ownS s d x c 0) (dgt m c) k
      rw [Nat.zero_add] at e
      show shortL (linkT d x c ((0 : Nat) + ((dgt m c + k : Nat) : Int)) (runS d x c ((0 : Nat) : Int) (ownS s d x c 0) (dgt m c + k))) = _
      rw [e]
      have h' : shortL (linkT d x c (dgt m c + k) (runS d x c (dgt m c) (linkAt S c) k)) = shortL (linkT d x c (dgt m c + k) (runS d x c (dgt m c) (ownS s d x c (dgt m c)) k)) := h
      rw [h']
      congr 2
      omega
    · intro e2
      have e := runS_add d x c 0 (ownS s d x c 0) (dgt m c) k
      rw [Nat.zero_add] at e
      have e3 : linkT d x c ((0 : Nat) + ((dgt m c + k : Nat) : Int)) (runS d x c ((0 : Nat) : Int) (ownS s d x c 0) (dgt m c + k)) = linkT d x c (dgt m c + k) (runS d x c (dgt m c) (linkAt S c) k) := e2
      rw [e, show ((0 : Nat) : Int) + ((dgt m c + k : Nat) : Int) = (dgt m c : Int) + k by omega] at e3
      exact hne (linkT_inj e3).symm
theorem ots_sound {s : List Int} {d x : Int} {m g S : List Int} (hm : m.length = 16) (hmb : Bytes m) (hg : g.length = 16) (hgb : Bytes g) (hS : S.length = 1088) (hb : Bytes S)
    (he : shortL (wholeT d x (recL d x m S 68)) = shortL (wholeT d x (topS s d x)))
    (hno : ¬ ClashP (pubTL s d x 68 ++ [wholeT d x (topS s d x)]) (recTL d x m S 68 ++ [wholeT d x (recL d x m S 68)])) :
    S = signS s d x m ∧ (m = g ∨ BelowP s d x m g S) := by
  have hw : wholeT d x (topS s d x) = wholeT d x (recL d x m S 68) := by
    apply Classical.byContradiction
    intro hne
    exact hno (clash_of (List.mem_append_right _ (List.mem_singleton.2 rfl)) (List.mem_append_right _ (List.mem_singleton.2 rfl)) he.symm hne)
  have hr := (wholeT_inj hw).symm
  have hall : ∀ c, c < 68 → linkAt S c = ownS s d x c (dgt m c) := fun c hc => by
    refine chain_down hS hb (us := pubTL s d x 68 ++ [wholeT d x (topS s d x)]) (bs := recTL d x m S 68 ++ [wholeT d x (recL d x m S 68)]) (fun c hc t ht => List.mem_append_left _ (pubTL_mem s d x hc ht)) (fun c hc t ht => List.mem_append_left _ (recTL_mem d x m hS hb hc (Nat.le_refl _) ht)) hno hc (3 - dgt m c) (Nat.le_refl _) ?_
    have h1 := recL_at d x m hS hb 68 (Nat.le_refl _) c hc
    rw [if_pos hc, hr] at h1
    rw [← h1, own_on s d x c (dgt_is m c).2]
    unfold topS
    exact link_cat (fun _ => ownS_len _ _ _ _ _) hc
  refine ⟨links_ext hS (signS_len s d x m) fun c hc => ?_, ?_⟩
  · rw [hall c hc]
    unfold signS
    rw [link_cat (fun _ => ownS_len _ _ _ _ _) hc]
  · by_cases e : m = g
    · exact .inl e
    · obtain ⟨c, hc, hlt⟩ := apart hm hg (fun x hx => hmb x hx) (fun x hx => hgb x hx) e
      refine .inr ⟨c, hc, ?_, (hall c hc).symm⟩
      have h1 := (dgt_is m c).1
      have h2 := (dgt_is g c).1
      omega
end Go.Proofs.YtpljjmdkagbjpaaDoor

namespace Go.Proofs.YtpljjmdkagbjpaaDoor
open Go.RowKit

/-- As wpList_load_row, of a guarded operation that is wanted. -/
theorem wpList_load_rowG {P : Program} {ops : Array Oper} {rest : List Oper} {o : Oper} {a : Act} {w : World} {Q : Exit → Act → World → Prop} (hw : Region.wanted o (yielded ops a.tmps) = true) (ty : TypeId) (x : Operand) (ho : o.op = .load ty x)
    (g : Nat) (hx : a.eval x = .pointer (some ⟨g, 0, none⟩)) (t : TypeId) (cs : Array Value) (fr : Nat × Nat) (d : TypeDesc) (hg : w.heap[g]? = some (.cells cs t fr))
    (hu : P.underlying ty = some d) (hd : (match d with | .struct _ | .array _ _ => true | _ => false) = true) (hi : (P.info? ty).map (·.size) = some cs.size)
    (h : wpList P ops Q rest (a.put o.dst (.agg cs)) w) : wpList P ops Q (o :: rest) a w := by
  unfold wpList
  rw [if_pos hw]
  exact .inl (wp_load_row ty x ho g hx t cs fr d hg hu hd hi h)
theorem wp_store_one {P : Program} {o : Oper} {a : Act} {w : World} {K : Act → World → Prop} {Q : Exit → Act → World → Prop} (hd : o.dst = none) (ty : TypeId) (x y : Operand) (ho : o.op = .store ty x y)
    (b i : Nat) (v : Value) (hx : a.eval x = .pointer (some ⟨b, i, none⟩)) (hy : a.eval y = v) (hr : (Instr.storeAt ty (.pointer (some ⟨b, i, none⟩)) v).run P w = .ok () (w.setCell ⟨b, i, none⟩ v))
    (h : K a (w.setCell ⟨b, i, none⟩ v)) : o.wp P a w K Q := by
  unfold Oper.wp execOp
  simp only [ho, hx, hy, Sem.run_bind, Sem.run_pure, Result.andThen_ok, hr]
  show K (a.put o.dst undef) _
  rw [hd]
  exact h
theorem eqIn_bytes {T : TypeId} (hu : Tryd.prog.underlying T = some (.array 16 5)) {p q : List Int} (hp : Bytes p) (hq : Bytes q) (h : p.length = 16) (g : q.length = 16) (w : World) : (Op.equalIn 10000 T (dgV p) (dgV q)).run Tryd.prog w = .ok (decide (p = q)) w := by
  have := run_equalIn_bytes (P := Tryd.prog) w 9998 T 5 16 hu Tryd.underlying5 size5 (p.map fun n => UInt8.ofNat n.toNat) (q.map fun n => UInt8.ofNat n.toNat) (by simp [h]) (by simp [g])
  rw [bv_cells hp, bv_cells hq] at this
  have e : ((p.map fun n => UInt8.ofNat n.toNat) == (q.map fun n => UInt8.ofNat n.toNat)) = decide (p = q) := by
    rw [Bool.eq_iff_iff, beq_iff_eq, decide_eq_true_iff]
    exact bytes_inj hp hq
  rw [e] at this
  exact this
theorem nq25 {p q : List Int} (hp : Bytes p) (hq : Bytes q) (h : p.length = 16) (g : q.length = 16) (w : World) : (binOp .neq 25 (dgV p) (dgV q)).run Tryd.prog w = .ok (.bool (!decide (p = q))) w := by
  rw [run_neq_struct, eqIn_bytes Tryd.underlying25 hp hq h g w]
  rfl
theorem ng25 (p q : List Int) (x y : Operand) (w : World) : (eqGuard .neq 25 x y (dgV p) (dgV q)).run Tryd.prog w = .ok () w := by kernel_rfl
theorem neq27 {p q : List Int} (hp : Bytes p) (hq : Bytes q) (h : p.length = 16) (g : q.length = 16) (w : World) : (binOp .neq 27 (dgV p) (dgV q)).run Tryd.prog w = .ok (.bool (!decide (p = q))) w := by
  rw [run_neq_struct, eqIn_bytes Tryd.underlying27 hp hq h g w]
  rfl
theorem neg27 (p q : List Int) (x y : Operand) (w : World) : (eqGuard .neq 27 x y (dgV p) (dgV q)).run Tryd.prog w = .ok () w := by kernel_rfl
theorem xor_range (x t : Int) : 0 ≤ bits .xor .u8 x t ∧ bits .xor .u8 x t ≤ 255 := by
  have h : ∀ n : Int, 0 ≤ IntKind.u8.wrap n ∧ IntKind.u8.wrap n ≤ 255 := fun n => by
    show 0 ≤ n % 256 ∧ n % 256 ≤ 255
    omega
  unfold bits
  exact h _
theorem xor_zero {x : Int} (h : 0 ≤ x ∧ x ≤ 255) : bits .xor .u8 x 0 = x := by
  have key : ∀ a : Fin 256, bits .xor .u8 (a.val : Int) 0 = (a.val : Int) := by decide +kernel
  have := key ⟨x.toNat, by omega⟩
  simp only [show ((x.toNat : Nat) : Int) = x by omega] at this
  exact this
theorem Bytes.setB {l : List Int} (h : Bytes l) {v : Int} (hv : 0 ≤ v ∧ v ≤ 255) (i : Nat) : Bytes (l.set i v) := fun x hx => by
  rcases List.mem_or_eq_of_mem_set hx with h1 | h1
  · exact h x h1
  · rw [h1]; exact hv
theorem set_same {l : List Int} {i n : Nat} (h : i < n) (hl : l.length = n) : l.set i (l.getD i 0) = l := by
  rw [List.getD_eq_getElem?_getD, List.getElem?_eq_getElem (by omega)]
  exact List.set_getElem_self (by omega)
theorem bool_isT {b : Bool} {P : Prop} (h : b = true ↔ P) (hP : P) : b = true := h.2 hP
theorem bool_isF {b : Bool} {P : Prop} (h : b = true ↔ P) (hP : ¬ P) : b = false := by
  cases b
  · rfl
  · exact absurd (h.1 rfl) hP
theorem linkT_len {d x c s : Int} {z : List Int} (hz : z.length = 16) : (linkT d x c s z).length = 24 := by
  simp [linkT, headL_len, hz]
theorem runT_small (d x c f : Int) {z : List Int} (hz : z.length = 16) : ∀ k, ∀ t ∈ runT d x c f z k, t.length = 24
  | 0, t, h => by cases h
  | k + 1, t, h => by
    rw [runT] at h
    rcases List.mem_append.1 h with h1 | h1
    · exact runT_small d x c f hz k t h1
    · rw [List.mem_singleton.1 h1]; exact linkT_len (runS_len _ _ _ _ hz _)
theorem small_at {us : List (List Int)} (h : ∀ t ∈ us, ∃ k l, t = k :: l ∧ l.length ≤ 1000000) : ∀ i, i < us.length → ∃ k l, us.getD i [] = k :: l ∧ l.length ≤ 1000000 := fun i hi => by
  rw [List.getD_eq_getElem?_getD, List.getElem?_eq_getElem hi]
  exact h _ (List.getElem_mem hi)
theorem small_of {t : List Int} (h1 : 0 < t.length) (h2 : t.length ≤ 1000000) : ∃ k l, t = k :: l ∧ l.length ≤ 1000000 := by
  cases t with
  | nil => simp at h1
  | cons k l => exact ⟨k, l, rfl, by simp at h2; omega⟩
theorem wholeT_len {d x : Int} {S : List Int} (h : S.length = 1088) : (wholeT d x S).length = 1094 := by simp [wholeT, headL_len, h]
theorem pubTL_small (s : List Int) (d x : Int) : ∀ n, ∀ t ∈ pubTL s d x n, t.length = 24
  | 0, t, h => by cases h
  | n + 1, t, h => by
    rw [pubTL] at h
    rcases List.mem_append.1 h with h1 | h1
    · exact pubTL_small s d x n t h1
    · exact runT_small _ _ _ _ (ownS_len _ _ _ _ _) 3 t h1
theorem recTL_small (d x : Int) (m : List Int) {S : List Int} (hS : S.length = 1088) (hb : Bytes S) : ∀ n, n ≤ 68 → ∀ t ∈ recTL d x m S n, t.length = 24
  | 0, _, t, h => by cases h
  | n + 1, hn, t, h => by
    rw [recTL] at h
    rcases List.mem_append.1 h with h1 | h1
    · exact recTL_small d x m hS hb n (by omega) t h1
    · exact runT_small _ _ _ _ (linkAt_len (recL_ok d x m hS hb n (by omega)).1 (by omega)) _ t h1
theorem pub_small (s : List Int) (d x : Int) : (pubTL s d x 68 ++ [wholeT d x (topS s d x)]).length ≤ 300 ∧ ∀ i, i < (pubTL s d x 68 ++ [wholeT d x (topS s d x)]).length → ∃ k l, (pubTL s d x 68 ++ [wholeT d x (topS s d x)]).getD i [] = k :: l ∧ l.length ≤ 1000000 := by
  refine ⟨by rw [List.length_append, pubTL_len]; simp, small_at fun t ht => ?_⟩
  rcases List.mem_append.1 ht with h1 | h1
  · have := pubTL_small s d x 68 t h1; exact small_of (by omega) (by omega)
  · have := wholeT_len (d := d) (x := x) (topS_len s d x); rw [List.mem_singleton.1 h1]; exact small_of (by omega) (by omega)
theorem rec_small (d x : Int) (m : List Int) {S : List Int} (hS : S.length = 1088) (hb : Bytes S) : (recTL d x m S 68 ++ [wholeT d x (recL d x m S 68)]).length ≤ 300 ∧ ∀ i, i < (recTL d x m S 68 ++ [wholeT d x (recL d x m S 68)]).length → ∃ k l, (recTL d x m S 68 ++ [wholeT d x (recL d x m S 68)]).getD i [] = k :: l ∧ l.length ≤ 1000000 := by
  refine ⟨by have := recTL_len d x m S 68; rw [List.length_append]; simp; omega, small_at fun t ht => ?_⟩
  rcases List.mem_append.1 ht with h1 | h1
  · have := recTL_small d x m hS hb 68 (Nat.le_refl _) t h1; exact small_of (by omega) (by omega)
  · have := wholeT_len (d := d) (x := x) (recL_ok d x m hS hb 68 (Nat.le_refl _)).1; rw [List.mem_singleton.1 h1]; exact small_of (by omega) (by omega)
end Go.Proofs.YtpljjmdkagbjpaaDoor
