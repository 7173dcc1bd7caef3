/-
  SettleSoon: what stands between the plan and the three maps.
-/
import Derived.Test.YtfnjfoconklhiaaStZV
import Derived.Maps.OwnSet
import Derived.Maps.Views
import Derived.Maps.RangeWalk
namespace Go.Proofs.Ytfnjfoconklhiaa
open Go.RowKit Go.Maps

abbrev kx (x : Int) : Lit := .int .i64 x
theorem kx_ne {x y : Int} (h : x ≠ y) : kx x ≠ kx y := fun e => h (by injection e)
/-- A map of numbers by numbers. -/
structure MS (D : DataW Unit) (H : Int → Bool) (F : Int → Int) : Prop where
  im : IsMap D
  has : ∀ x, has D (kx x) = H x
  val : ∀ x, H x = true → ∀ z, D.atKey (kx x) z = .lit (.int .i64 (F x))
theorem MS.nil {H : Int → Bool} (h : ∀ x, H x = false) (F : Int → Int) : MS (.map []) H F := ⟨isMap_empty, fun x => by rw [h x]; rfl, fun x hx => by rw [h x] at hx; cases hx⟩
theorem MS.congr {D : DataW Unit} {H H' : Int → Bool} {F F' : Int → Int} (h : MS D H F) (hh : ∀ x, H' x = H x) (hf : ∀ x, H x = true → F' x = F x) : MS D H' F' :=
  ⟨h.im, fun x => by rw [hh, h.has], fun x hx z => by rw [hh] at hx; rw [h.val x hx z, hf x hx]⟩
theorem MS.put {D : DataW Unit} {H : Int → Bool} {F : Int → Int} (h : MS D H F) (d c : Int) : MS (D.put (kx d) (.lit (.int .i64 c))) (fun x => decide (x = d) || H x) (fun x => if x = d then c else F x) := by
  refine ⟨h.im.put _ _, fun x => ?_, fun x hx z => ?_⟩
  · by_cases e : x = d
    · subst e; rw [has_put_same h.im (show WideAt.IsKeyLit (kx x) from trivial)]; simp
    · rw [has_put_other (kx_ne e), h.has]; simp [e]
  · by_cases e : x = d
    · subst e; rw [atKey_put_same h.im (show WideAt.IsKeyLit (kx x) from trivial), if_pos rfl]
    · rw [atKey_put_other (kx_ne e), if_neg e]; exact h.val x (by simpa [e] using hx) z
theorem MS.del {D : DataW Unit} {H : Int → Bool} {F : Int → Int} (h : MS D H F) (d : Int) : MS (D.del (kx d)) (fun x => !decide (x = d) && H x) F := by
  refine ⟨h.im.del _, fun x => ?_, fun x hx z => ?_⟩
  · by_cases e : x = d
    · subst e; rw [has_del_same]; simp
    · rw [has_del_other (kx_ne e), h.has]; simp [e]
  · by_cases e : x = d
    · subst e; simp at hx
    · rw [atKey_del_other (kx_ne e)]; exact h.val x (by simpa [e] using hx) z
abbrev K3 := Int × Int × Int
abbrev agg3 (x : K3) : Value := .agg #[.int .u32 x.1, .int .u32 x.2.1, .int .i64 x.2.2]
def encK (x : K3) : DataW Unit := .agg [.lit (.int .u32 x.1), .lit (.int .u32 x.2.1), .lit (.int .i64 x.2.2)]
theorem encK_inj {x y : K3} (h : encK x = encK y) : x = y := by
  unfold encK at h
  simp at h
  obtain ⟨a, b, c⟩ := x
  obtain ⟨d, e, f⟩ := y
  simp at h
  simp [h]
theorem agg3_inj {x y : K3} (h : agg3 x = agg3 y) : x = y := by
  simp at h
  obtain ⟨a, b, c⟩ := x
  obtain ⟨d, e, f⟩ := y
  simp at h
  simp [h]
open Classical in
/-- How a key in the map reads. -/
noncomputable def keyElem (v : Value) : Option (DataW Unit × List MemPlace) := if h : ∃ x : K3, v = agg3 x then some (encK h.choose, []) else none
theorem keyElem_mk (x : K3) : keyElem (agg3 x) = some (encK x, []) := by
  have h : ∃ y : K3, agg3 x = agg3 y := ⟨x, rfl⟩
  unfold keyElem
  rw [dif_pos h, ← agg3_inj h.choose_spec]
theorem keyElem_inv {v : Value} {x : K3} {ps : List MemPlace} (h : keyElem v = some (encK x, ps)) : v = agg3 x := by
  unfold keyElem at h
  split at h
  · rename_i hx
    simp only [Option.some.injEq, Prod.mk.injEq] at h
    rw [← encK_inj h.1]
    exact hx.choose_spec
  · cases h
/-- A map of keys by numbers. -/
structure MK (D : DataW Unit) (H : Int → Bool) (F : Int → K3) : Prop where
  im : IsMap D
  has : ∀ x, has D (kx x) = H x
  val : ∀ x, H x = true → ∀ z, D.atKey (kx x) z = encK (F x)
theorem MK.nil {H : Int → Bool} (h : ∀ x, H x = false) (F : Int → K3) : MK (.map []) H F := ⟨isMap_empty, fun x => by rw [h x]; rfl, fun x hx => by rw [h x] at hx; cases hx⟩
theorem MK.congr {D : DataW Unit} {H H' : Int → Bool} {F F' : Int → K3} (h : MK D H F) (hh : ∀ x, H' x = H x) (hf : ∀ x, H x = true → F' x = F x) : MK D H' F' :=
  ⟨h.im, fun x => by rw [hh, h.has], fun x hx z => by rw [hh] at hx; rw [h.val x hx z, hf x hx]⟩
theorem MK.put {D : DataW Unit} {H : Int → Bool} {F : Int → K3} (h : MK D H F) (d : Int) (c : K3) : MK (D.put (kx d) (encK c)) (fun x => decide (x = d) || H x) (fun x => if x = d then c else F x) := by
  refine ⟨h.im.put _ _, fun x => ?_, fun x hx z => ?_⟩
  · by_cases e : x = d
    · subst e; rw [has_put_same h.im (show WideAt.IsKeyLit (kx x) from trivial)]; simp
    · rw [has_put_other (kx_ne e), h.has]; simp [e]
  · by_cases e : x = d
    · subst e; rw [atKey_put_same h.im (show WideAt.IsKeyLit (kx x) from trivial), if_pos rfl]
    · rw [atKey_put_other (kx_ne e), if_neg e]; exact h.val x (by simpa [e] using hx) z
/-- What is there, or nothing. -/
theorem MK.at {D : DataW Unit} {H : Int → Bool} {F : Int → K3} (h : MK D H F) (x : Int) : D.atKey (kx x) (encK (0, 0, 0)) = encK (if H x = true then F x else (0, 0, 0)) := by
  cases hx : H x with
  | true => rw [h.val x hx]; rfl
  | false => rw [atKey_of_not_has (by rw [h.has, hx])]; rfl
theorem law3m : Keyed Try.prog 3 := int_keyed Try.underlying3
theorem zero2m (w : World) : (zeroValue 2).run Try.prog w = .ok (.int .i64 0) w := by kernel_rfl
theorem zero35m (w : World) : (zeroValue 35).run Try.prog w = .ok (agg3 (0, 0, 0)) w := by kernel_rfl
theorem key3m {x : Int} (h : 0 ≤ x ∧ x < 8) : keyOf Try.prog 3 (.int .i64 x) = some (kx x) := keyOf_int_mk Try.underlying3 (by simp [Lit.wf, IntKind.min, IntKind.max, IntKind.signed, IntKind.bits]; omega)
theorem wf2m {x : Int} (h : 0 ≤ x ∧ x < 100) : (Lit.int .i64 x).wf = true := by simp [Lit.wf, IntKind.min, IntKind.max, IntKind.signed, IntKind.bits]; omega
/-- 'k, ok := m[x]' of the map of keys. -/
theorem wpList_lookup_key (w : World) {ops : Array Oper} {rest : List Oper} {o : Oper} {a : Act} {Q : Exit → Act → World → Prop} (hg : o.guard = none) (m x : Operand) (hop : o.op = Op.lookup 61 m x true)
    (b n : Nat) (D : DataW Unit) (H : Int → Bool) (F : Int → K3) (hm : a.eval m = .map (some b)) (hown : w.ownsMap Try.prog 3 keyElem b n D) (hD : MK D H F) (d : Int) (hx : a.eval x = .int .i64 d) (hd : 0 ≤ d ∧ d < 8)
    (hK : ∀ e s mm : Int, (if H d = true then F d else (0, 0, 0)) = (e, s, mm) → wpList Try.prog ops Q rest (a.put o.dst (.tuple #[.agg #[.int .u32 e, .int .u32 s, .int .i64 mm], .bool (H d)])) w) :
    wpList Try.prog ops Q (o :: rest) a w :=
  wpList_lookup_own_ok w hg m x 61 hop 3 35 law3m Try.underlying61 keyElem (zero35m w) (encK (0, 0, 0)) [] (keyElem_mk _) b n D hm hown _ _ hx (key3m hd) (fun v ps hv => by
    rw [hD.at d] at hv
    rw [keyElem_inv hv, hD.has]
    exact hK _ _ _ rfl)
/-- 'v, ok := m[x]' of a map of times. -/
theorem wpList_lookup_ms (w : World) {ops : Array Oper} {rest : List Oper} {o : Oper} {a : Act} {Q : Exit → Act → World → Prop} (hg : o.guard = none) (m x : Operand) (hop : o.op = Op.lookup 60 m x true)
    (b n : Nat) (D : DataW Unit) (H : Int → Bool) (F : Int → Int) (hm : a.eval m = .map (some b)) (hown : w.ownsMap Try.prog 3 (plainElem Try.prog 2) b n D) (hD : MS D H F) (d : Int) (hx : a.eval x = .int .i64 d) (hd : 0 ≤ d ∧ d < 8)
    (hK : ∀ c : Int, wpList Try.prog ops Q rest (a.put o.dst (.tuple #[.int .i64 c, .bool (H d)])) w) :
    wpList Try.prog ops Q (o :: rest) a w :=
  wpList_lookup_own_ok_int w hg m x 60 hop 3 2 .i64 law3m Try.underlying60 Try.underlying2 (zero2m w) b n D hm hown _ _ hx (key3m hd) (fun c _ _ => by
    rw [hD.has]
    exact hK c)

/-- Of whom there are news; of whom anything was noted; since when; what. -/
def wtM (p : PS) (x : Int) : Bool := decide (0 ≤ x ∧ x < 8) && (p.all x.toNat).waits
def ntM (p : PS) (x : Int) : Bool := decide (0 ≤ x ∧ x < 8) && (p.all x.toNat).noted
def fsM (p : PS) (x : Int) : Int := (p.all x.toNat).first
def kyM (p : PS) (x : Int) : K3 := ((p.all x.toNat).e, (p.all x.toNat).s, (p.all x.toNat).m)
/-- What stands ahead of Due at the tick now. -/
structure PI (p : PS) (now : Int) (S : Int → Int) : Prop where
  wn : ∀ x, wtM p x = true → ntM p x = true
  fst : ∀ x, ntM p x = true → 0 ≤ fsM p x ∧ fsM p x ≤ now
  snc : ∀ x, wtM p x = true → 0 ≤ S x ∧ S x ≤ now ∧ (p.ever = true → p.told < S x)
  told : p.ever = true → 0 ≤ p.told ∧ p.told < now ∧ now - p.told ≤ p.period
  ev : p.ever = false → now = 0
def lastM (p : PS) : Int := if p.ever = true then p.told else -1
theorem noteB_in {now d e s m : Int} (h : noteB now d e s m = true) : 0 ≤ d ∧ d < 8 := by
  unfold noteB at h
  simp at h
  exact h.1
theorem toNat_ne {x d : Int} (hx : 0 ≤ x) (hd : 0 ≤ d) (h : x ≠ d) : x.toNat ≠ d.toNat := by omega
theorem note_all {p : PS} {now d e s m : Int} {u : Bool} (hn : noteB now d e s m = true) : (p.note now d e s m u).all d.toNat = (p.all d.toNat).note now e s m u := by
  unfold PS.note
  rw [if_pos hn]
  simp [PS.put]
theorem note_other {p : PS} {now d e s m x : Int} {u : Bool} (hn : noteB now d e s m = true) (hx : 0 ≤ x) (h : x ≠ d) : (p.note now d e s m u).all x.toNat = p.all x.toNat := by
  unfold PS.note
  rw [if_pos hn]
  simp [PS.put, toNat_ne hx (noteB_in hn).1 h]
theorem note_rest (p : PS) (now d e s m : Int) (u : Bool) : (p.note now d e s m u).ever = p.ever ∧ (p.note now d e s m u).told = p.told ∧ (p.note now d e s m u).period = p.period ∧ (p.note now d e s m u).settle = p.settle := by
  unfold PS.note
  split <;> exact ⟨rfl, rfl, rfl, rfl⟩
theorem note_wt {p : PS} {now d e s m : Int} {u : Bool} (hn : noteB now d e s m = true) (x : Int) : wtM (p.note now d e s m u) x = (decide (x = d) || wtM p x) := by
  have hd := noteB_in hn
  by_cases h : x = d
  · subst h
    unfold wtM
    rw [note_all hn]
    simp [NW.note, hd]
  · by_cases hx : 0 ≤ x ∧ x < 8
    · unfold wtM
      rw [note_other hn hx.1 h]
      simp [h]
    · simp [wtM, hx, h]
theorem note_nt {p : PS} {now d e s m : Int} {u : Bool} (hn : noteB now d e s m = true) (x : Int) : ntM (p.note now d e s m u) x = (decide (x = d) || ntM p x) := by
  have hd := noteB_in hn
  by_cases h : x = d
  · subst h
    unfold ntM
    rw [note_all hn]
    simp [NW.note, hd]
  · by_cases hx : 0 ≤ x ∧ x < 8
    · unfold ntM
      rw [note_other hn hx.1 h]
      simp [h]
    · simp [ntM, hx, h]
/-- Whether the sequence is new. -/
def nwM (p : PS) (d e s : Int) : Bool := !ntM p d || nwB e s (if ntM p d = true then kyM p d else (0, 0, 0)).1 (if ntM p d = true then kyM p d else (0, 0, 0)).2.1
theorem ntM_noted {p : PS} {d : Int} (hd : 0 ≤ d ∧ d < 8) : (p.all d.toNat).noted = ntM p d := by simp [ntM, hd]
theorem note_fs {p : PS} {now d e s m : Int} {u : Bool} (hn : noteB now d e s m = true) (x : Int) (hx : 0 ≤ x ∧ x < 8) : fsM (p.note now d e s m u) x = if x = d then (if nwM p d e s = true then now else fsM p d) else fsM p x := by
  have hd := noteB_in hn
  by_cases h : x = d
  · subst h
    rw [if_pos rfl]
    unfold fsM
    rw [note_all hn]
    unfold NW.note nwM
    simp only
    rw [ntM_noted hd]
    cases hnt : ntM p x with
    | true => simp [kyM]
    | false => simp
  · unfold fsM
    rw [note_other hn hx.1 h, if_neg h]
theorem note_ky {p : PS} {now d e s m : Int} {u : Bool} (hn : noteB now d e s m = true) (x : Int) (hx : 0 ≤ x ∧ x < 8) : kyM (p.note now d e s m u) x = if x = d then (e, s, m) else kyM p x := by
  by_cases h : x = d
  · subst h
    rw [if_pos rfl]
    unfold kyM
    rw [note_all hn]
    rfl
  · unfold kyM
    rw [note_other hn hx.1 h, if_neg h]
theorem in8 {p : PS} {x : Int} (h : ntM p x = true) : 0 ≤ x ∧ x < 8 := by
  unfold ntM at h
  simp at h
  exact h.1
theorem in8w {p : PS} {x : Int} (h : wtM p x = true) : 0 ≤ x ∧ x < 8 := by
  unfold wtM at h
  simp at h
  exact h.1
def sinM (p : PS) (S : Int → Int) (now d : Int) : Int → Int := if wtM p d = true then S else fun x => if x = d then now else S x
theorem PI.note {p : PS} {now d e s m : Int} {S : Int → Int} {u : Bool} (h : PI p now S) (hn : noteB now d e s m = true) (h0 : 0 ≤ now) : PI (p.note now d e s m u) now (sinM p S now d) := by
  obtain ⟨r1, r2, r3, r4⟩ := note_rest p now d e s m u
  refine ⟨fun x hx => ?_, fun x hx => ?_, fun x hx => ?_, fun hx => ?_, fun hx => ?_⟩
  · rw [note_wt hn] at hx
    rw [note_nt hn]
    by_cases e : x = d
    · simp [e]
    · simp [e] at hx ⊢; exact h.wn x hx
  · have h8 := in8 hx
    rw [note_nt hn] at hx
    rw [note_fs hn x h8]
    by_cases e : x = d
    · subst e
      rw [if_pos rfl]
      cases hw : nwM p x _ s with
      | true => simp; omega
      | false =>
        have hnt : ntM p x = true := by
          unfold nwM at hw
          simp at hw
          exact hw.1
        simpa using h.fst x hnt
    · rw [if_neg e]; exact h.fst x (by simpa [e] using hx)
  · rw [note_wt hn] at hx
    rw [r1, r2]
    unfold sinM
    by_cases e : x = d
    · subst e
      cases hw : wtM p x with
      | true => simp; exact h.snc x hw
      | false =>
        simp
        exact ⟨h0, fun he => (h.told he).2.1⟩
    · have := h.snc x (by simpa [e] using hx)
      cases hw : wtM p d with
      | true => simpa using this
      | false => simpa [e] using this
  · rw [r1] at hx; rw [r2, r3]; exact h.told hx
  · rw [r1] at hx; exact h.ev hx
theorem note_last (p : PS) (now d e s m : Int) (u : Bool) : lastM (p.note now d e s m u) = lastM p := by
  obtain ⟨r1, r2, _, _⟩ := note_rest p now d e s m u
  unfold lastM
  rw [r1, r2]
end Go.Proofs.Ytfnjfoconklhiaa
