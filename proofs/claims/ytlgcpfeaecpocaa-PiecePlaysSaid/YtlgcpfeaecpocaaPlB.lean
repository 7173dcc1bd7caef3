/-
  The document's joiner takes a piece.
-/
import Derived.Test.YtlgcpfeaecpocaaPlA
import Derived.Deep.RegionHeld3
namespace Go.Proofs.Ytlgcpfeaecpocaa
open Go.RowKit

theorem info51s : (Try.prog.info? 51).map (·.size) = some 5 := by kernel_rfl
theorem ex_worldL {Q : Exit → Act → World → Prop} {x : Exit} {a : Act} {w : World} (F : World → Prop) (hF : F w) (h : ∀ w2, F w2 → Q x a w2) : Q x a w := h w hF
theorem there5 {w : World} {F : Nat} {x0 x1 x2 x3 x4 : Value} {t : TypeId} (h : Blk w F (.cells #[x0, x1, x2, x3, x4] t)) : w.there F 0 5 := fun j hj => ⟨match j, hj with
  | 0, _ => by rw [h.cell 0]; rfl
  | 1, _ => by rw [h.cell 1]; rfl
  | 2, _ => by rw [h.cell 2]; rfl
  | 3, _ => by rw [h.cell 3]; rfl
  | 4, _ => by rw [h.cell 4]; rfl
  | j + 5, hj => absurd hj (by omega), h.frozen _⟩
theorem turn5 {w : World} {F : Nat} {x0 x1 x2 x3 x4 : Value} {t : TypeId} (h : Blk w F (.cells #[x0, x1, x2, x3, x4] t)) (y0 y1 y2 y3 y4 : Value) : Turn F (.cells #[y0, y1, y2, y3, y4] t) w (w.setCells F 0 [y0, y1, y2, y3, y4]) := (((((Turn.same h).set 0 _).set 1 _).set 2 _).set 3 _).set 4 _
theorem results_3c {P : Program} {fn : Func} {a b c p : Tmp} {ty : TypeId} (h : fn.results = #[.tmp a, .tmp b, .tmp c, .cell p ty]) (tmps : Array Value) (w : World) (g : Nat) (t : TypeId) (cs : Array Value) (fr : Nat × Nat) (d : TypeDesc)
    (hp : tmps.getD p undef = .pointer (some ⟨g, 0, none⟩)) (hg : w.heap[g]? = some (.cells cs t fr))
    (hu : P.underlying ty = some d) (hd : (match d with | .struct _ | .array _ _ => true | _ => false) = true) (hi : (P.info? ty).map (·.size) = some cs.size) :
    (results fn tmps).run P w = .ok (.tuple #[tmps.getD a undef, tmps.getD b undef, tmps.getD c undef, .agg cs]) w := by
  have hp' : tmps[p]?.getD undef = .pointer (some ⟨g, 0, none⟩) := by simpa using hp
  simp [results, h, hp', asAddr, run_loadVar_row w g t ty cs fr d hg hu hd hi]
/-- The document's Take, on its way: the joiner stands in F, the piece behind it, the result behind that. -/
structure TS (w : World) (B F : Nat) (p : PV) (tp : List Int) (R : RJ) (v : Value) (W : World) : Prop where
  j : Blk W F (.cells (rjc R v) 51)
  b : Blk W (F + 1) (.cells #[.int .u32 p.id, .int .i64 p.at_, .int .i64 p.many, .slice p.a p.n p.c] 25)
  r : Blk W (F + 1 + 1) (.cells #[.bool false, .bool false, .int .u32 0, .int .i64 0, .slice none 0 0] 51)
  q : QRow W B v R.ps
  t : HoldsB W B (.slice p.a p.n p.c) tp
  below : Below F w W
  bf : B ≤ F
theorem TS.keep {w W W' : World} {B F : Nat} {p : PV} {tp : List Int} {R : RJ} {v : Value} (h : TS w B F p tp R v W) (hb : Below W.heap.size W W') : TS w B F p tp R v W' :=
  ⟨h.j.keep hb, h.b.keep hb, h.r.keep hb, h.q.keep hb, h.t.keep hb, h.below.trans (hb.mono (by have := h.j.lt; omega)), h.bf⟩
theorem QRow.turn {w w' : World} {B b : Nat} {cs cs' : Array Value} {v : Value} {l : List PcV} (h : QRow w B v l) (hb : Blk w b (.cells cs 51)) (ht : Turn b (.cells cs' 51) w w') (hB : B ≤ b) : QRow w' B v l := by
  refine ⟨ownsRow_same h.r fun k hk => ?_, fun x hx => (h.t x hx).turn ht hB⟩
  obtain ⟨cur, hc⟩ := ownsRow_type h.r hk
  exact ht.other k (Array.getElem?_eq_some_iff.1 hc).1 (cells_ne hc hb (by decide))
theorem one5l (x y : Bool) (i m : Int) (a : Option Addr) (n c : Nat) : (#[.bool x, .bool y, .int .u32 i, .int .i64 m, .slice a n c] : Array Value).all (·.oneCell') = true :=
  all_oneCell_toArray (cs := [.bool x, .bool y, .int .u32 i, .int .i64 m, .slice a n c]) (by intro v hv; simp only [List.mem_cons, List.not_mem_nil, or_false] at hv; rcases hv with rfl | rfl | rfl | rfl | rfl <;> rfl)
theorem one5 {w : World} {B : Nat} (R : RJ) (v : Value) (h : QRow w B v R.ps) : (rjc R v).all (·.oneCell') = true := by
  obtain ⟨a, n, c, rfl, -⟩ := h.shape
  exact all_oneCell_toArray (cs := [.bool R.any, .bool R.over, .int .u32 R.id, .int .i64 R.many, .slice a n c]) (by intro v hv; simp only [List.mem_cons, List.not_mem_nil, or_false] at hv; rcases hv with rfl | rfl | rfl | rfl | rfl <;> rfl)
theorem TS.qrow {w W W' : World} {B F : Nat} {p : PV} {tp : List Int} {R : RJ} {v : Value} {cs : Array Value} (h : TS w B F p tp R v W) (ht : Turn (F + 1 + 1) (.cells cs 51) W W') : QRow W' B v R.ps := h.q.turn h.r ht (by have := h.bf; omega)
theorem TS.end_ {w W W' : World} {B F : Nat} {p : PV} {tp : List Int} {R : RJ} {v : Value} {cs : Array Value} (h : TS w B F p tp R v W) (ht : Turn (F + 1 + 1) (.cells cs 51) W W') : Below F w W' := h.below.trans (ht.below (by omega) (by have := h.j.lt; omega))
theorem TS.body {w W W' : World} {B F : Nat} {p : PV} {tp : List Int} {R : RJ} {v u : Value} {l : List Int} {cs : Array Value} (h : TS w B F p tp R v W) (hu : HoldsB W W.heap.size u l) (ht : Turn (F + 1 + 1) (.cells cs 51) W W') : HoldsB W' W'.heap.size u l :=
  (hu.beside h.r (by
    intro i z
    match i with
    | 0 => simp
    | 1 => simp
    | 2 => simp
    | 3 => simp
    | 4 => simp
    | i + 5 => simp) ht.size fun k hk hne => ht.other k hk hne).mono ht.size
/-- Another state of the joiner. -/
theorem TS.put {w W W' : World} {B F : Nat} {p : PV} {tp : List Int} {R R' : RJ} {v v' : Value} (h : TS w B F p tp R v W) (ht : Turn F (.cells (rjc R' v') 51) W W') (hq : QRow W' B v' R'.ps) : TS w B F p tp R' v' W' :=
  ⟨ht.blk, ht.keep h.b (by omega), ht.keep h.r (by omega), hq, h.t.turn ht h.bf, h.below.trans (ht.below (Nat.le_refl _) (by have := h.j.lt; omega)), h.bf⟩
def nextR (R : RJ) (p : PV) : RJ := if R.any = false ∨ R.id < p.id then ⟨true, false, p.id, p.many, []⟩ else R
def textAt (l : List PcV) (k : Int) : List Int := match findP l k with | some x => x.l | none => []
def bodyR (l : List PcV) : Nat → List Int
  | 0 => []
  | n + 1 => bodyR l n ++ textAt l n
def lensR (l : List PcV) : Nat := (l.map fun x => x.l.length).sum
theorem lensR_le {l : List PcV} {n : Nat} (h : ∀ x ∈ l, x.l.length ≤ 4096) (hn : l.length ≤ n) : lensR l ≤ 4096 * n := by
  have : lensR l ≤ 4096 * l.length := by
    unfold lensR
    clear hn
    induction l with
    | nil => simp
    | cons x r ih =>
      have h1 := h x (by simp)
      have h2 := ih fun y hy => h y (by simp [hy])
      simp only [List.map_cons, List.sum_cons, List.length_cons, Nat.mul_add]
      omega
  have h2 : 4096 * l.length ≤ 4096 * n := Nat.mul_le_mul_left _ hn
  omega
theorem lensR_succ {l : List PcV} {i : Nat} (hi : i < l.length) : lensR (l.take (i + 1)) = lensR (l.take i) + l[i].l.length := by
  unfold lensR
  rw [List.take_add_one, List.getElem?_eq_getElem hi]
  simp only [Option.toList, List.map_append, List.map_cons, List.map_nil, List.sum_append, List.sum_cons, List.sum_nil, Nat.add_zero]
theorem rcells_succ {l : List PcV} {i : Nat} (hi : i < l.length) : rcells (l.take (i + 1)) = rcells (l.take i) ++ pcc l[i] := by
  unfold rcells
  rw [List.take_add_one, List.getElem?_eq_getElem hi]
  simp only [Option.toList, List.map_append, List.map_cons, List.map_nil, List.flatten_append, List.flatten_cons, List.flatten_nil, List.append_nil]
theorem row_shape25 {w : World} {base n : Nat} {v : Value} {xs : List Value} (h : w.ownsRow base 25 4 v n xs) : ∃ a c, v = .slice a n c := by
  rcases h.2 with ⟨rfl, h0⟩ | ⟨g, cap, cur, rfl, _⟩
  · exact ⟨none, 0, by rw [h0]⟩
  · exact ⟨_, _, rfl⟩
theorem textAt_le {l : List PcV} (h : ∀ x ∈ l, x.l.length ≤ 4096) (k : Int) : (textAt l k).length ≤ 4096 := by
  unfold textAt
  cases hf : findP l k with
  | none => simp
  | some x => exact h x (List.mem_of_find?_eq_some hf)
theorem bodyR_le {l : List PcV} (h : ∀ x ∈ l, x.l.length ≤ 4096) : ∀ {i n : Nat}, i ≤ n → (bodyR l i).length ≤ 4096 * n := by
  intro i
  induction i with
  | zero => intro n _; simp [bodyR]
  | succ i ih =>
    intro n hn
    have h1 := ih (n := n - 1) (by omega)
    have h2 := textAt_le h i
    simp only [bodyR, List.length_append]
    omega
theorem bodyR_bytes {l : List PcV} (h : ∀ x ∈ l, Bytes x.l) : ∀ i, Bytes (bodyR l i) := by
  intro i
  induction i with
  | zero => exact Bytes.nil
  | succ i ih =>
    refine Bytes.append ih ?_
    unfold textAt
    cases hf : findP l i with
    | none => exact Bytes.nil
    | some x => exact h x (List.mem_of_find?_eq_some hf)
theorem partV_shape {w : World} {B : Nat} {v : Value} {l : List PcV} (h : QRow w B v l) (k : Int) : ∃ z1 z2 z3 za zn zc, partV (findP l k) = #[.int .u32 z1, .int .i64 z2, .int .i64 z3, .slice za zn zc] ∧ HoldsB w B (.slice za zn zc) (textAt l k) := by
  unfold textAt
  cases hf : findP l k with
  | none => exact ⟨0, 0, 0, none, 0, 0, rfl, HoldsB.nil _ _⟩
  | some x =>
    have hx := h.t x (List.mem_of_find?_eq_some hf)
    obtain ⟨a, n, c, e, -⟩ := hx.slice
    rw [e] at hx
    refine ⟨x.id, x.at_, x.many, a, n, c, ?_, hx⟩
    unfold partV pcc
    simp only [e]
def pcvOf (p : PV) (tp : List Int) : PcV := ⟨p.id, p.at_, p.many, .slice p.a p.n p.c, tp⟩
def addR (R : RJ) (p : PV) (tp : List Int) : RJ := { R with ps := R.ps ++ [pcvOf p tp] }
def rtakeR (R : RJ) (p : PV) (tp : List Int) : Int × Bool × List Int × RJ :=
  if rightB p = false then (1, false, [], R)
  else if R.any = true ∧ (p.id < R.id ∨ p.id = R.id ∧ R.over = true) then (27, false, [], R)
  else if p.many ≠ (nextR R p).many then (10, false, [], nextR R p)
  else if (findP (nextR R p).ps p.at_).isSome = true then (if textAt (nextR R p).ps p.at_ ≠ tp then (7, false, [], nextR R p) else (0, false, [], nextR R p))
  else if 16384 < tp.length + lensR (nextR R p).ps then (8, false, [], { nextR R p with over := true })
  else if ((nextR R p).ps.length : Int) + 1 < (nextR R p).many then (0, false, [], addR (nextR R p) p tp)
  else (0, true, bodyR (addR (nextR R p) p tp).ps (addR (nextR R p) p tp).many.toNat, { addR (nextR R p) p tp with over := true })
def RTakePost (B : Nat) (R : RJ) (p : PV) (tp : List Int) (w : World) (r : Ending) (w' : World) : Prop :=
  ∃ u v', r = .returned (.tuple #[u, .bool (rtakeR R p tp).2.1, .int .i64 (rtakeR R p tp).1, .agg (rjc (rtakeR R p tp).2.2.2 v')]) ∧ HoldsB w' w'.heap.size u (rtakeR R p tp).2.2.1 ∧ QRow w' B v' (rtakeR R p tp).2.2.2.ps ∧ Below w.heap.size w w'
set_option maxRecDepth 100000 in
set_option maxHeartbeats 80000000 in
theorem rtake_bad (B : Nat) (R : RJ) (v : Value) (p : PV) (tp : List Int) (w : World) (hB : B ≤ w.heap.size) (h : QRow w B v R.ps) (hp : HoldsB w B (.slice p.a p.n p.c) tp) (hl : (R.over = false → R.ps.length ≤ 31) ∧ ∀ x ∈ R.ps, x.l.length ≤ 4096) (ho : R.over = false → R.any = true → (R.ps.length : Int) < R.many) (hm : R.many ≤ 32) (hr : rightB p = false) :
    Calls Try.prog 20 #[.agg (rjc R v), p.v] w (RTakePost B R p tp w) := by
  have H := Kp.mk h
  have HT := Kp.mk hp
  have hn : p.n = tp.length := by
    obtain ⟨a1, n1, c1, e1, e2⟩ := hp.slice
    simp only [Value.slice.injEq] at e1
    omega
  have HN := Kp.mk hn
  have HL := Kp.mk hl
  have HO := Kp.mk ho
  have HBW := Kp.mk hB
  obtain ⟨va, vn, vc, rfl, hvn⟩ := h.shape
  have HVN := Kp.mk hvn
  clear h hp hn hl ho hvn hB hm
  go_enter Try.func20, Try.ntmps20
  go_wp2_with fail
  obtain ⟨F, hF⟩ : ∃ F, F = w.heap.size := ⟨_, rfl⟩
  have HFe := Kp.mk hF
  refine calls_world (fun W => TS w B F p tp R (.slice va vn vc) W) ⟨((Blk.newAt _ hF).old _).old _, (Blk.newAt _ (by simp [hF])).old _, Blk.newAt _ (by simp [hF]), ((H.out.keep (more (Below.refl _ _) _)).keep (more (Below.refl _ _) _)).keep (more (Below.refl _ _) _), ((HT.out.alloc _).alloc _).alloc _, by rw [hF]; exact more (more (more (Below.refl _ _) _) _) _, by rw [hF]; exact HBW.out⟩ ?_
  intro W h1
  have T0 := Kp.mk h1
  rw [← hF]
  clear h1 hF
  refine (rright_any p W).mono ?_
  rintro r w1 ⟨rfl, hb⟩
  have T1 := Kp.mk (T0.out.keep hb)
  clear hb T0
  have hpc : ∀ {R' : RJ} {v' : Value} {W' : World}, TS w B F p tp R' v' W' → W'.cell? ⟨F + 1, 0, none⟩ = some (.int .u32 p.id) ∧ W'.cell? ⟨F + 1, 1, none⟩ = some (.int .i64 p.at_) ∧ W'.cell? ⟨F + 1, 2, none⟩ = some (.int .i64 p.many) ∧ W'.cell? ⟨F + 1, 3, none⟩ = some (.slice p.a p.n p.c) := fun h => ⟨h.b.cell 0, h.b.cell 1, h.b.cell 2, h.b.cell 3⟩
  have hjc : ∀ {R' : RJ} {v' : Value} {W' : World}, TS w B F p tp R' v' W' → W'.cell? ⟨F, 0, none⟩ = some (.bool R'.any) ∧ W'.cell? ⟨F, 1, none⟩ = some (.bool R'.over) ∧ W'.cell? ⟨F, 2, none⟩ = some (.int .u32 R'.id) ∧ W'.cell? ⟨F, 3, none⟩ = some (.int .i64 R'.many) ∧ W'.cell? ⟨F, 4, none⟩ = some v' := fun h => ⟨h.j.cell 0, h.j.cell 1, h.j.cell 2, h.j.cell 3, h.j.cell 4⟩
  have HPC := Kp.mk @hpc
  have HJC := Kp.mk @hjc
  clear hpc hjc
  have HR : Kp (rtakeR R p tp = (1, false, [], R)) := ⟨by unfold rtakeR; rw [if_pos hr]⟩
  rw [hr]
  clear hr
  go_wp2_with fail
  have HD := Kp.mk (T1.out.keep (Below.refl _ _).drew)
  refine wp_region_any (by kernel_rfl) ?_
  change wpAny _ _ _ _ _ _ _ (World.drew _)
  generalize (w1).drew = w9 at *
  have HTH := Kp.mk (there5 HD.out.r)
  have HTU := Kp.mk (turn5 HD.out.r (.bool R.any) (.bool R.over) (.int .u32 R.id) (.int .i64 R.many) (.slice va vn vc))
  have H1C := Kp.mk (one5 R (.slice va vn vc) HD.out.q)
  refine wpAny_take (i := 1) (oi := { dst := some 4, op := Go.Op.assign (Go.Operand.const (Go.Value.slice none 0 0)), type := 23, pos := "ref.go:100", after := #[{ on := 0, ground := Go.Ground.textOnly Go.Departure.lateStores }], guard := none }) (v := .slice none 0 0) rfl (by kernel_rfl) (by kernel_rfl) (by kernel_rfl) (fun _ _ _ h => h) (Or.inl ⟨by rfl, fun w => by go_simp⟩) ?_
  simp only [Act.put, List.setIfInBounds_toArray, List.set_cons_zero, List.set_cons_succ]
  refine wpAny_take (i := 2) (oi := { dst := some 5, op := Go.Op.assign (Go.Operand.const (Go.Value.bool false)), type := 4, pos := "ref.go:100", after := #[{ on := 1, ground := Go.Ground.chain }, { on := 0, ground := Go.Ground.textOnly Go.Departure.lateStores }, { on := 1, ground := Go.Ground.phase }], guard := none }) (v := .bool false) rfl (by kernel_rfl) (by kernel_rfl) (by kernel_rfl) (fun _ _ _ h => h) (Or.inl ⟨by rfl, fun w => by go_simp⟩) ?_
  simp only [Act.put, List.setIfInBounds_toArray, List.set_cons_zero, List.set_cons_succ]
  refine wpAny_take (i := 3) (oi := { dst := some 6, op := Go.Op.assign (Go.Operand.const (Go.Value.int Go.IntKind.i64 1)), type := 3, pos := "ref.go:100", after := #[{ on := 2, ground := Go.Ground.chain }, { on := 0, ground := Go.Ground.textOnly Go.Departure.lateStores }, { on := 1, ground := Go.Ground.phase }, { on := 2, ground := Go.Ground.phase }], guard := none }) (v := .int .i64 1) rfl (by kernel_rfl) (by kernel_rfl) (by kernel_rfl) (fun _ _ _ h => h) (Or.inl ⟨by rfl, fun w => by go_simp⟩) ?_
  simp only [Act.put, List.setIfInBounds_toArray, List.set_cons_zero, List.set_cons_succ]
  refine wpAny_ready (rs := [0]) (by kernel_rfl) (by simp) ?_
  refine AllReady.cons (o := { dst := some 21, op := Go.Op.load 51 (Go.Operand.tmp 2), type := 51, pos := "ref.go:100", after := #[{ on := 3, ground := Go.Ground.gcOnly Go.Departure.lateStores }], guard := none }) rfl (fun K hK => ?_) AllReady.nil
  refine wp_load_row 51 (.tmp 2) rfl F rfl 51 (rjc R (.slice va vn vc)) (0, 0) _ HD.out.j Try.underlying51 rfl info51s ?_
  refine hK _ _ ?_
  clear hK K
  try simp only [Act.put, List.setIfInBounds_toArray, List.set_cons_zero, List.set_cons_succ]
  refine wpAny_ready (rs := [4]) (by kernel_rfl) (by simp) ?_
  refine AllReady.cons (o := { dst := none, op := Go.Op.store 51 (Go.Operand.tmp 7) (Go.Operand.tmp 21), type := 0, pos := "ref.go:100", after := #[{ on := 0, ground := Go.Ground.data }, { on := 3, ground := Go.Ground.chain }, { on := 0, ground := Go.Ground.phase }, { on := 1, ground := Go.Ground.phase }, { on := 2, ground := Go.Ground.phase }, { on := 3, ground := Go.Ground.phase }], guard := none }) rfl (fun K hK => ?_) AllReady.nil
  refine wp_store_mid 51 (.tmp 7) (.tmp 21) rfl (F + 1 + 1) 0 (rjc R (.slice va vn vc)) rfl rfl HTH.out info51s H1C.out ?_
  refine hK _ _ ?_
  clear hK K
  try simp only [Act.put, List.setIfInBounds_toArray, List.set_cons_zero, List.set_cons_succ]
  refine wpAny_done (by kernel_rfl) ?_ _
  refine ex_worldL (fun W => Turn (F + 1 + 1) (.cells (rjc R (.slice va vn vc)) 51) w9 W) HTU.out ?_
  intro W5 hT5
  have HT5 := Kp.mk hT5
  clear hT5 HTU HTH H1C
  go_wp2_with fail
  have HBK := Kp.mk HT5.out.blk
  exact bodyPost_ret (results_3c rfl _ _ (F + 1 + 1) 51 _ (0, 0) _ rfl HBK.out Try.underlying51 rfl info51s) rfl ⟨.slice none 0 0, (.slice va vn vc), by rw [HR.out]; rfl, by rw [HR.out]; exact HoldsB.nil _ _, by rw [HR.out]; exact HD.out.qrow HT5.out, by rw [← HFe.out]; exact HD.out.end_ HT5.out⟩
set_option maxRecDepth 100000 in
set_option maxHeartbeats 80000000 in
theorem rtake_old (B : Nat) (R : RJ) (v : Value) (p : PV) (tp : List Int) (w : World) (hB : B ≤ w.heap.size) (h : QRow w B v R.ps) (hp : HoldsB w B (.slice p.a p.n p.c) tp) (hl : (R.over = false → R.ps.length ≤ 31) ∧ ∀ x ∈ R.ps, x.l.length ≤ 4096) (ho : R.over = false → R.any = true → (R.ps.length : Int) < R.many) (hm : R.many ≤ 32) (hr : rightB p = true) (h1 : R.any = true) (h2 : p.id < R.id) :
    Calls Try.prog 20 #[.agg (rjc R v), p.v] w (RTakePost B R p tp w) := by
  have H := Kp.mk h
  have HT := Kp.mk hp
  have hn : p.n = tp.length := by
    obtain ⟨a1, n1, c1, e1, e2⟩ := hp.slice
    simp only [Value.slice.injEq] at e1
    omega
  have HN := Kp.mk hn
  have HL := Kp.mk hl
  have HO := Kp.mk ho
  have HBW := Kp.mk hB
  obtain ⟨va, vn, vc, rfl, hvn⟩ := h.shape
  have HVN := Kp.mk hvn
  clear h hp hn hl ho hvn hB hm
  go_enter Try.func20, Try.ntmps20
  go_wp2_with fail
  obtain ⟨F, hF⟩ : ∃ F, F = w.heap.size := ⟨_, rfl⟩
  have HFe := Kp.mk hF
  refine calls_world (fun W => TS w B F p tp R (.slice va vn vc) W) ⟨((Blk.newAt _ hF).old _).old _, (Blk.newAt _ (by simp [hF])).old _, Blk.newAt _ (by simp [hF]), ((H.out.keep (more (Below.refl _ _) _)).keep (more (Below.refl _ _) _)).keep (more (Below.refl _ _) _), ((HT.out.alloc _).alloc _).alloc _, by rw [hF]; exact more (more (more (Below.refl _ _) _) _) _, by rw [hF]; exact HBW.out⟩ ?_
  intro W h1
  have T0 := Kp.mk h1
  rw [← hF]
  clear h1 hF
  refine (rright_any p W).mono ?_
  rintro r w1 ⟨rfl, hb⟩
  have T1 := Kp.mk (T0.out.keep hb)
  clear hb T0
  have hpc : ∀ {R' : RJ} {v' : Value} {W' : World}, TS w B F p tp R' v' W' → W'.cell? ⟨F + 1, 0, none⟩ = some (.int .u32 p.id) ∧ W'.cell? ⟨F + 1, 1, none⟩ = some (.int .i64 p.at_) ∧ W'.cell? ⟨F + 1, 2, none⟩ = some (.int .i64 p.many) ∧ W'.cell? ⟨F + 1, 3, none⟩ = some (.slice p.a p.n p.c) := fun h => ⟨h.b.cell 0, h.b.cell 1, h.b.cell 2, h.b.cell 3⟩
  have hjc : ∀ {R' : RJ} {v' : Value} {W' : World}, TS w B F p tp R' v' W' → W'.cell? ⟨F, 0, none⟩ = some (.bool R'.any) ∧ W'.cell? ⟨F, 1, none⟩ = some (.bool R'.over) ∧ W'.cell? ⟨F, 2, none⟩ = some (.int .u32 R'.id) ∧ W'.cell? ⟨F, 3, none⟩ = some (.int .i64 R'.many) ∧ W'.cell? ⟨F, 4, none⟩ = some v' := fun h => ⟨h.j.cell 0, h.j.cell 1, h.j.cell 2, h.j.cell 3, h.j.cell 4⟩
  have HPC := Kp.mk @hpc
  have HJC := Kp.mk @hjc
  clear hpc hjc
  have HRB := Kp.mk hr
  have HRR := Kp.mk (rightB_is hr)
  rw [hr]
  clear hr
  obtain ⟨p0, p1, p2, p3⟩ := HPC.out T1.out
  obtain ⟨j0, j1, j2, j3, j4⟩ := HJC.out T1.out
  have HR : Kp (rtakeR R p tp = (27, false, [], R)) := ⟨by unfold rtakeR; rw [if_neg (by rw [HRB.out]; decide), if_pos ⟨h1, .inl h2⟩]⟩
  go_wp2_with fail
  clear p0 p1 p2 p3 j0 j1 j2 j3 j4
  have HD := Kp.mk (T1.out.keep (Below.refl _ _).drew)
  refine wp_region_any (by kernel_rfl) ?_
  change wpAny _ _ _ _ _ _ _ (World.drew _)
  generalize (w1).drew = w9 at *
  have HTH := Kp.mk (there5 HD.out.r)
  have HTU := Kp.mk (turn5 HD.out.r (.bool R.any) (.bool R.over) (.int .u32 R.id) (.int .i64 R.many) (.slice va vn vc))
  have H1C := Kp.mk (one5 R (.slice va vn vc) HD.out.q)
  refine wpAny_take (i := 1) (oi := { dst := some 4, op := Go.Op.assign (Go.Operand.const (Go.Value.slice none 0 0)), type := 23, pos := "ref.go:103", after := #[{ on := 0, ground := Go.Ground.textOnly Go.Departure.lateStores }], guard := none }) (v := .slice none 0 0) rfl (by kernel_rfl) (by kernel_rfl) (by kernel_rfl) (fun _ _ _ h => h) (Or.inl ⟨by rfl, fun w => by go_simp⟩) ?_
  simp only [Act.put, List.setIfInBounds_toArray, List.set_cons_zero, List.set_cons_succ]
  refine wpAny_take (i := 2) (oi := { dst := some 5, op := Go.Op.assign (Go.Operand.const (Go.Value.bool false)), type := 4, pos := "ref.go:103", after := #[{ on := 1, ground := Go.Ground.chain }, { on := 0, ground := Go.Ground.textOnly Go.Departure.lateStores }, { on := 1, ground := Go.Ground.phase }], guard := none }) (v := .bool false) rfl (by kernel_rfl) (by kernel_rfl) (by kernel_rfl) (fun _ _ _ h => h) (Or.inl ⟨by rfl, fun w => by go_simp⟩) ?_
  simp only [Act.put, List.setIfInBounds_toArray, List.set_cons_zero, List.set_cons_succ]
  refine wpAny_take (i := 3) (oi := { dst := some 6, op := Go.Op.assign (Go.Operand.const (Go.Value.int Go.IntKind.i64 27)), type := 3, pos := "ref.go:103", after := #[{ on := 2, ground := Go.Ground.chain }, { on := 0, ground := Go.Ground.textOnly Go.Departure.lateStores }, { on := 1, ground := Go.Ground.phase }, { on := 2, ground := Go.Ground.phase }], guard := none }) (v := .int .i64 27) rfl (by kernel_rfl) (by kernel_rfl) (by kernel_rfl) (fun _ _ _ h => h) (Or.inl ⟨by rfl, fun w => by go_simp⟩) ?_
  simp only [Act.put, List.setIfInBounds_toArray, List.set_cons_zero, List.set_cons_succ]
  refine wpAny_ready (rs := [0]) (by kernel_rfl) (by simp) ?_
  refine AllReady.cons (o := { dst := some 42, op := Go.Op.load 51 (Go.Operand.tmp 2), type := 51, pos := "ref.go:103", after := #[{ on := 3, ground := Go.Ground.gcOnly Go.Departure.lateStores }], guard := none }) rfl (fun K hK => ?_) AllReady.nil
  refine wp_load_row 51 (.tmp 2) rfl F rfl 51 (rjc R (.slice va vn vc)) (0, 0) _ HD.out.j Try.underlying51 rfl info51s ?_
  refine hK _ _ ?_
  clear hK K
  try simp only [Act.put, List.setIfInBounds_toArray, List.set_cons_zero, List.set_cons_succ]
  refine wpAny_ready (rs := [4]) (by kernel_rfl) (by simp) ?_
  refine AllReady.cons (o := { dst := none, op := Go.Op.store 51 (Go.Operand.tmp 7) (Go.Operand.tmp 42), type := 0, pos := "ref.go:103", after := #[{ on := 0, ground := Go.Ground.data }, { on := 3, ground := Go.Ground.chain }, { on := 0, ground := Go.Ground.phase }, { on := 1, ground := Go.Ground.phase }, { on := 2, ground := Go.Ground.phase }, { on := 3, ground := Go.Ground.phase }], guard := none }) rfl (fun K hK => ?_) AllReady.nil
  refine wp_store_mid 51 (.tmp 7) (.tmp 42) rfl (F + 1 + 1) 0 (rjc R (.slice va vn vc)) rfl rfl HTH.out info51s H1C.out ?_
  refine hK _ _ ?_
  clear hK K
  try simp only [Act.put, List.setIfInBounds_toArray, List.set_cons_zero, List.set_cons_succ]
  refine wpAny_done (by kernel_rfl) ?_ _
  refine ex_worldL (fun W => Turn (F + 1 + 1) (.cells (rjc R (.slice va vn vc)) 51) w9 W) HTU.out ?_
  intro W5 hT5
  have HT5 := Kp.mk hT5
  clear hT5 HTU HTH H1C
  go_wp2_with fail
  have HBK := Kp.mk HT5.out.blk
  exact bodyPost_ret (results_3c rfl _ _ (F + 1 + 1) 51 _ (0, 0) _ rfl HBK.out Try.underlying51 rfl info51s) rfl ⟨.slice none 0 0, (.slice va vn vc), by rw [HR.out]; rfl, by rw [HR.out]; exact HoldsB.nil _ _, by rw [HR.out]; exact HD.out.qrow HT5.out, by rw [← HFe.out]; exact HD.out.end_ HT5.out⟩
set_option maxRecDepth 100000 in
set_option maxHeartbeats 80000000 in
theorem rtake_over (B : Nat) (R : RJ) (v : Value) (p : PV) (tp : List Int) (w : World) (hB : B ≤ w.heap.size) (h : QRow w B v R.ps) (hp : HoldsB w B (.slice p.a p.n p.c) tp) (hl : (R.over = false → R.ps.length ≤ 31) ∧ ∀ x ∈ R.ps, x.l.length ≤ 4096) (ho : R.over = false → R.any = true → (R.ps.length : Int) < R.many) (hm : R.many ≤ 32) (hr : rightB p = true) (h1 : R.any = true) (h2 : ¬ p.id < R.id) (h3 : (p.id == R.id) = true) (h4 : R.over = true) :
    Calls Try.prog 20 #[.agg (rjc R v), p.v] w (RTakePost B R p tp w) := by
  have H := Kp.mk h
  have HT := Kp.mk hp
  have hn : p.n = tp.length := by
    obtain ⟨a1, n1, c1, e1, e2⟩ := hp.slice
    simp only [Value.slice.injEq] at e1
    omega
  have HN := Kp.mk hn
  have HL := Kp.mk hl
  have HO := Kp.mk ho
  have HBW := Kp.mk hB
  obtain ⟨va, vn, vc, rfl, hvn⟩ := h.shape
  have HVN := Kp.mk hvn
  clear h hp hn hl ho hvn hB hm
  go_enter Try.func20, Try.ntmps20
  go_wp2_with fail
  obtain ⟨F, hF⟩ : ∃ F, F = w.heap.size := ⟨_, rfl⟩
  have HFe := Kp.mk hF
  refine calls_world (fun W => TS w B F p tp R (.slice va vn vc) W) ⟨((Blk.newAt _ hF).old _).old _, (Blk.newAt _ (by simp [hF])).old _, Blk.newAt _ (by simp [hF]), ((H.out.keep (more (Below.refl _ _) _)).keep (more (Below.refl _ _) _)).keep (more (Below.refl _ _) _), ((HT.out.alloc _).alloc _).alloc _, by rw [hF]; exact more (more (more (Below.refl _ _) _) _) _, by rw [hF]; exact HBW.out⟩ ?_
  intro W h1
  have T0 := Kp.mk h1
  rw [← hF]
  clear h1 hF
  refine (rright_any p W).mono ?_
  rintro r w1 ⟨rfl, hb⟩
  have T1 := Kp.mk (T0.out.keep hb)
  clear hb T0
  have hpc : ∀ {R' : RJ} {v' : Value} {W' : World}, TS w B F p tp R' v' W' → W'.cell? ⟨F + 1, 0, none⟩ = some (.int .u32 p.id) ∧ W'.cell? ⟨F + 1, 1, none⟩ = some (.int .i64 p.at_) ∧ W'.cell? ⟨F + 1, 2, none⟩ = some (.int .i64 p.many) ∧ W'.cell? ⟨F + 1, 3, none⟩ = some (.slice p.a p.n p.c) := fun h => ⟨h.b.cell 0, h.b.cell 1, h.b.cell 2, h.b.cell 3⟩
  have hjc : ∀ {R' : RJ} {v' : Value} {W' : World}, TS w B F p tp R' v' W' → W'.cell? ⟨F, 0, none⟩ = some (.bool R'.any) ∧ W'.cell? ⟨F, 1, none⟩ = some (.bool R'.over) ∧ W'.cell? ⟨F, 2, none⟩ = some (.int .u32 R'.id) ∧ W'.cell? ⟨F, 3, none⟩ = some (.int .i64 R'.many) ∧ W'.cell? ⟨F, 4, none⟩ = some v' := fun h => ⟨h.j.cell 0, h.j.cell 1, h.j.cell 2, h.j.cell 3, h.j.cell 4⟩
  have HPC := Kp.mk @hpc
  have HJC := Kp.mk @hjc
  clear hpc hjc
  have HRB := Kp.mk hr
  have HRR := Kp.mk (rightB_is hr)
  rw [hr]
  clear hr
  obtain ⟨p0, p1, p2, p3⟩ := HPC.out T1.out
  obtain ⟨j0, j1, j2, j3, j4⟩ := HJC.out T1.out
  have HR : Kp (rtakeR R p tp = (27, false, [], R)) := ⟨by unfold rtakeR; rw [if_neg (by rw [HRB.out]; decide), if_pos ⟨h1, .inr ⟨by simpa using h3, h4⟩⟩]⟩
  go_wp2_with fail
  clear p0 p1 p2 p3 j0 j1 j2 j3 j4
  have HD := Kp.mk (T1.out.keep (Below.refl _ _).drew)
  refine wp_region_any (by kernel_rfl) ?_
  change wpAny _ _ _ _ _ _ _ (World.drew _)
  generalize (w1).drew = w9 at *
  have HTH := Kp.mk (there5 HD.out.r)
  have HTU := Kp.mk (turn5 HD.out.r (.bool R.any) (.bool R.over) (.int .u32 R.id) (.int .i64 R.many) (.slice va vn vc))
  have H1C := Kp.mk (one5 R (.slice va vn vc) HD.out.q)
  refine wpAny_take (i := 1) (oi := { dst := some 4, op := Go.Op.assign (Go.Operand.const (Go.Value.slice none 0 0)), type := 23, pos := "ref.go:103", after := #[{ on := 0, ground := Go.Ground.textOnly Go.Departure.lateStores }], guard := none }) (v := .slice none 0 0) rfl (by kernel_rfl) (by kernel_rfl) (by kernel_rfl) (fun _ _ _ h => h) (Or.inl ⟨by rfl, fun w => by go_simp⟩) ?_
  simp only [Act.put, List.setIfInBounds_toArray, List.set_cons_zero, List.set_cons_succ]
  refine wpAny_take (i := 2) (oi := { dst := some 5, op := Go.Op.assign (Go.Operand.const (Go.Value.bool false)), type := 4, pos := "ref.go:103", after := #[{ on := 1, ground := Go.Ground.chain }, { on := 0, ground := Go.Ground.textOnly Go.Departure.lateStores }, { on := 1, ground := Go.Ground.phase }], guard := none }) (v := .bool false) rfl (by kernel_rfl) (by kernel_rfl) (by kernel_rfl) (fun _ _ _ h => h) (Or.inl ⟨by rfl, fun w => by go_simp⟩) ?_
  simp only [Act.put, List.setIfInBounds_toArray, List.set_cons_zero, List.set_cons_succ]
  refine wpAny_take (i := 3) (oi := { dst := some 6, op := Go.Op.assign (Go.Operand.const (Go.Value.int Go.IntKind.i64 27)), type := 3, pos := "ref.go:103", after := #[{ on := 2, ground := Go.Ground.chain }, { on := 0, ground := Go.Ground.textOnly Go.Departure.lateStores }, { on := 1, ground := Go.Ground.phase }, { on := 2, ground := Go.Ground.phase }], guard := none }) (v := .int .i64 27) rfl (by kernel_rfl) (by kernel_rfl) (by kernel_rfl) (fun _ _ _ h => h) (Or.inl ⟨by rfl, fun w => by go_simp⟩) ?_
  simp only [Act.put, List.setIfInBounds_toArray, List.set_cons_zero, List.set_cons_succ]
  refine wpAny_ready (rs := [0]) (by kernel_rfl) (by simp) ?_
  refine AllReady.cons (o := { dst := some 42, op := Go.Op.load 51 (Go.Operand.tmp 2), type := 51, pos := "ref.go:103", after := #[{ on := 3, ground := Go.Ground.gcOnly Go.Departure.lateStores }], guard := none }) rfl (fun K hK => ?_) AllReady.nil
  refine wp_load_row 51 (.tmp 2) rfl F rfl 51 (rjc R (.slice va vn vc)) (0, 0) _ HD.out.j Try.underlying51 rfl info51s ?_
  refine hK _ _ ?_
  clear hK K
  try simp only [Act.put, List.setIfInBounds_toArray, List.set_cons_zero, List.set_cons_succ]
  refine wpAny_ready (rs := [4]) (by kernel_rfl) (by simp) ?_
  refine AllReady.cons (o := { dst := none, op := Go.Op.store 51 (Go.Operand.tmp 7) (Go.Operand.tmp 42), type := 0, pos := "ref.go:103", after := #[{ on := 0, ground := Go.Ground.data }, { on := 3, ground := Go.Ground.chain }, { on := 0, ground := Go.Ground.phase }, { on := 1, ground := Go.Ground.phase }, { on := 2, ground := Go.Ground.phase }, { on := 3, ground := Go.Ground.phase }], guard := none }) rfl (fun K hK => ?_) AllReady.nil
  refine wp_store_mid 51 (.tmp 7) (.tmp 42) rfl (F + 1 + 1) 0 (rjc R (.slice va vn vc)) rfl rfl HTH.out info51s H1C.out ?_
  refine hK _ _ ?_
  clear hK K
  try simp only [Act.put, List.setIfInBounds_toArray, List.set_cons_zero, List.set_cons_succ]
  refine wpAny_done (by kernel_rfl) ?_ _
  refine ex_worldL (fun W => Turn (F + 1 + 1) (.cells (rjc R (.slice va vn vc)) 51) w9 W) HTU.out ?_
  intro W5 hT5
  have HT5 := Kp.mk hT5
  clear hT5 HTU HTH H1C
  go_wp2_with fail
  have HBK := Kp.mk HT5.out.blk
  exact bodyPost_ret (results_3c rfl _ _ (F + 1 + 1) 51 _ (0, 0) _ rfl HBK.out Try.underlying51 rfl info51s) rfl ⟨.slice none 0 0, (.slice va vn vc), by rw [HR.out]; rfl, by rw [HR.out]; exact HoldsB.nil _ _, by rw [HR.out]; exact HD.out.qrow HT5.out, by rw [← HFe.out]; exact HD.out.end_ HT5.out⟩
end Go.Proofs.Ytlgcpfeaecpocaa
