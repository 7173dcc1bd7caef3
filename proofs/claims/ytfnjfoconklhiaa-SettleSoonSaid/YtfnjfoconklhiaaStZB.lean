/-
  SettleSoon: what Due does to it.
-/
import Derived.Test.YtfnjfoconklhiaaStZA
namespace Go.Proofs.Ytfnjfoconklhiaa
open Go.RowKit Go.Maps

def inL (l : List Nat) (x : Int) : Bool := decide (0 ≤ x) && decide (x.toNat ∈ l)
theorem inL_nil (x : Int) : inL [] x = false := by simp [inL]
theorem inL_cons (d : Nat) (l : List Nat) (x : Int) : inL (d :: l) x = (decide (x = d) || inL l x) := by
  unfold inL
  by_cases h : x = d
  · subst h; simp
  · by_cases hx : 0 ≤ x
    · have : x.toNat ≠ d := by omega
      simp [hx, h, this]
    · simp [hx, h]
theorem tell_wt (p : PS) (l : List Nat) (x : Int) : wtM (p.tell l) x = (wtM p x && !inL l x) := by
  unfold wtM inL PS.tell
  simp only
  by_cases hx : 0 ≤ x ∧ x < 8
  · by_cases h : x.toNat ∈ l
    · simp [h, hx, NW.tell]
    · simp [h, hx]
  · simp [hx]
theorem tell_nt (p : PS) (l : List Nat) (x : Int) : ntM (p.tell l) x = ntM p x := by
  unfold ntM PS.tell
  simp only
  split <;> rfl
theorem tell_fs (p : PS) (l : List Nat) (x : Int) : fsM (p.tell l) x = fsM p x := by
  unfold fsM PS.tell
  simp only
  split <;> rfl
theorem tell_ky (p : PS) (l : List Nat) (x : Int) : kyM (p.tell l) x = kyM p x := by
  unfold kyM PS.tell
  simp only
  split <;> rfl
theorem tm60 {now : Int} (h : 0 ≤ now ∧ now < 60) : tmB now = true := by simp [tmB]; omega
theorem due_is {p : PS} {now : Int} (h : 0 ≤ now ∧ now < 60) : p.due now = if p.full now = true then { (p.tell (those p (·.waits) 8)) with ever := true, told := now } else p.tell (those p (p.ripe now) 8) := by
  unfold PS.due
  rw [if_pos (tm60 h)]
theorem dueF_is {p : PS} {now : Int} (h : 0 ≤ now ∧ now < 60) : p.dueF now = p.full now := by
  unfold PS.dueF
  rw [tm60 h]
  rfl
theorem due_nt {p : PS} {now : Int} (h : 0 ≤ now ∧ now < 60) (x : Int) : ntM (p.due now) x = ntM p x := by
  rw [due_is h]
  split
  · exact tell_nt p _ x
  · exact tell_nt p _ x
theorem due_fs {p : PS} {now : Int} (h : 0 ≤ now ∧ now < 60) (x : Int) : fsM (p.due now) x = fsM p x := by
  rw [due_is h]
  split
  · exact tell_fs p _ x
  · exact tell_fs p _ x
theorem due_ky {p : PS} {now : Int} (h : 0 ≤ now ∧ now < 60) (x : Int) : kyM (p.due now) x = kyM p x := by
  rw [due_is h]
  split
  · exact tell_ky p _ x
  · exact tell_ky p _ x
theorem due_rest {p : PS} {now : Int} (h : 0 ≤ now ∧ now < 60) : (p.due now).period = p.period ∧ (p.due now).settle = p.settle := by
  rw [due_is h]
  split <;> exact ⟨rfl, rfl⟩
theorem in_those {p : PS} {q : NW → Bool} {x : Int} (hx : 0 ≤ x ∧ x < 8) : inL (those p q 8) x = q (p.all x.toNat) := by
  unfold inL
  have h8 : x.toNat < 8 := by omega
  cases hq : q (p.all x.toNat) with
  | true => simp [those_mem, hx.1, h8, hq]
  | false => simp [those_mem, hx.1, hq]
theorem wt_full {p : PS} {now : Int} (h : 0 ≤ now ∧ now < 60) (hf : p.full now = true) (x : Int) : wtM (p.due now) x = false := by
  rw [due_is h, if_pos hf]
  show wtM (p.tell (those p (·.waits) 8)) x = false
  rw [tell_wt]
  by_cases hx : 0 ≤ x ∧ x < 8
  · rw [in_those hx]
    unfold wtM
    simp [hx]
  · simp [wtM, hx]
theorem waits_full {p : PS} {now : Int} (h : 0 ≤ now ∧ now < 60) (hf : p.full now = true) : those (p.due now) (fun n => n.waits) 8 = [] := by
  apply those_none
  intro i hi
  have := wt_full h hf (i : Int)
  unfold wtM at this
  simpa [hi, show (i : Int) < 8 by omega] using this
theorem dueL_full {p : PS} {now : Int} (hf : p.full now = true) : p.dueL now = [] := by
  unfold PS.dueL
  rw [if_neg (by rw [hf]; simp)]
theorem last_full {p : PS} {now : Int} (h : 0 ≤ now ∧ now < 60) (hf : p.full now = true) : lastM (p.due now) = now := by
  rw [due_is h, if_pos hf]
  rfl
theorem dueL_part {p : PS} {now : Int} (h : 0 ≤ now ∧ now < 60) (hf : p.full now = false) : p.dueL now = those p (p.ripe now) 8 := by
  unfold PS.dueL
  rw [if_pos ⟨tm60 h, hf⟩]
theorem due_part {p : PS} {now : Int} (h : 0 ≤ now ∧ now < 60) (hf : p.full now = false) : p.due now = p.tell (p.dueL now) := by
  rw [due_is h, if_neg (by rw [hf]; simp), dueL_part h hf]
theorem full_no {p : PS} {now : Int} (hf : p.full now = false) : p.ever = true ∧ now - p.told < p.period := by
  unfold PS.full at hf
  simp at hf
  exact hf
theorem last_part {p : PS} {now : Int} (h : 0 ≤ now ∧ now < 60) (hf : p.full now = false) : lastM (p.due now) = lastM p := by
  rw [due_part h hf]
  rfl
theorem last_at {p : PS} {now : Int} {S : Int → Int} (h : PI p now S) (hf : p.full now = true) (hl : 0 ≤ lastM p) : now - lastM p = p.period := by
  unfold lastM at hl ⊢
  cases he : p.ever with
  | false => rw [he] at hl; simp at hl
  | true =>
    have := h.told he
    unfold PS.full at hf
    rw [he] at hf
    simp at hf ⊢
    omega
/-- The set of whom there are news while the list is taken off. -/
def HL (p : PS) (now : Int) (i : Nat) (x : Int) : Bool := wtM (p.due now) x || inL ((p.dueL now).drop i) x
theorem HL_full {p : PS} {now : Int} (h : 0 ≤ now ∧ now < 60) (hf : p.full now = true) (x : Int) : HL p now 0 x = false := by
  unfold HL
  rw [wt_full h hf, dueL_full hf]
  simp [inL]
theorem ripe_waits {p : PS} {now : Int} {n : NW} (h : p.ripe now n = true) : n.waits = true := by
  unfold PS.ripe at h
  simp at h
  exact h.1
theorem HL_part {p : PS} {now : Int} (h : 0 ≤ now ∧ now < 60) (hf : p.full now = false) (x : Int) : HL p now 0 x = wtM p x := by
  unfold HL
  rw [due_part h hf, tell_wt, List.drop_zero]
  by_cases hx : 0 ≤ x ∧ x < 8
  · rw [dueL_part h hf, in_those hx]
    cases hr : p.ripe now (p.all x.toNat) with
    | false => simp
    | true => simp [wtM, hx, ripe_waits hr]
  · have h1 : wtM p x = false := by simp [wtM, hx]
    rw [h1]
    cases hi : inL (p.dueL now) x with
    | false => rfl
    | true =>
      unfold inL at hi
      simp [dueL_part h hf, those_mem] at hi
      omega
theorem those_nodup (p : PS) (q : NW → Bool) (i : Nat) : (those p q i).Nodup := List.nodup_range.filter _
theorem dueL_nodup (p : PS) (now : Int) : (p.dueL now).Nodup := by
  unfold PS.dueL
  split
  · exact those_nodup _ _ _
  · simp
theorem dueL_in {p : PS} {now : Int} {d : Nat} (h : d ∈ p.dueL now) : d < 8 := by
  unfold PS.dueL at h
  split at h
  · exact (those_mem.1 h).1
  · cases h
theorem HL_step {p : PS} {now : Int} (h : 0 ≤ now ∧ now < 60) {i : Nat} (hi : i < (p.dueL now).length) : HL p now i ((p.dueL now).getD i 0 : Nat) = true ∧ (p.dueL now).getD i 0 < 8 ∧ ∀ x, HL p now (i + 1) x = (!decide (x = ((p.dueL now).getD i 0 : Nat)) && HL p now i x) := by
  have hf : p.full now = false := by
    cases hf : p.full now with
    | false => rfl
    | true => rw [dueL_full hf] at hi; cases hi
  have e : (p.dueL now).drop i = (p.dueL now).getD i 0 :: (p.dueL now).drop (i + 1) := by
    rw [List.drop_eq_getElem_cons hi]
    simp [List.getD_eq_getElem?_getD, List.getElem?_eq_getElem hi]
  have hm : (p.dueL now).getD i 0 ∈ p.dueL now := by
    rw [List.getD_eq_getElem?_getD, List.getElem?_eq_getElem hi]
    exact List.getElem_mem hi
  have hn : (p.dueL now).getD i 0 ∉ (p.dueL now).drop (i + 1) := by
    have := (dueL_nodup p now).sublist (List.drop_sublist i _)
    rw [e] at this
    exact (List.nodup_cons.1 this).1
  have hw : wtM (p.due now) ((p.dueL now).getD i 0 : Nat) = false := by
    rw [due_part h hf, tell_wt]
    have : inL (p.dueL now) ((p.dueL now).getD i 0 : Nat) = true := by
      unfold inL
      rw [Int.toNat_natCast]
      simp only [hm, decide_true, Bool.and_true]
      simp
    rw [this]
    simp
  have h8 := dueL_in hm
  generalize (p.dueL now).getD i 0 = d at *
  refine ⟨?_, h8, fun x => ?_⟩
  · unfold HL
    rw [e, inL_cons]
    simp
  · unfold HL
    rw [e, inL_cons]
    by_cases hx : x = d
    · subst hx
      rw [hw]
      simp [inL, hn]
    · simp [hx]
theorem HL_end (p : PS) (now : Int) (x : Int) : HL p now (p.dueL now).length x = wtM (p.due now) x := by
  unfold HL
  rw [List.drop_length, inL_nil, Bool.or_false]
/-- Whoever still waits may wait. -/
theorem soon {p : PS} {now : Int} {S : Int → Int} (h : PI p now S) (h0 : 0 ≤ now ∧ now < 60) {x : Int} (hx : wtM (p.due now) x = true) : (0 ≤ S x ∧ S x ≤ now ∧ now - S x < p.period) ∧ 0 ≤ fsM p x ∧ fsM p x ≤ now ∧ now - fsM p x < p.settle := by
  have h8 := in8w hx
  have hf : p.full now = false := by
    cases hf : p.full now with
    | false => rfl
    | true => rw [wt_full h0 hf] at hx; cases hx
  have hno := full_no hf
  rw [due_part h0 hf, tell_wt] at hx
  simp at hx
  obtain ⟨hw, hi⟩ := hx
  rw [dueL_part h0 hf, in_those h8] at hi
  have hs := h.snc x hw
  have hfs := h.fst x (h.wn x hw)
  refine ⟨⟨hs.1, hs.2.1, ?_⟩, hfs.1, hfs.2, ?_⟩
  · have := hs.2.2 hno.1; omega
  · unfold PS.ripe setT at hi
    have hw' : (p.all x.toNat).waits = true := by unfold wtM at hw; simp at hw; exact hw.2
    rw [hw'] at hi
    simp at hi
    unfold fsM
    split at hi
    · omega
    · omega
theorem PI.due {p : PS} {now : Int} {S : Int → Int} (h : PI p now S) (h0 : 0 ≤ now ∧ now < 60) (hp : 1 ≤ p.period) : PI (p.due now) (now + 1) S := by
  have hr := due_rest (p := p) h0
  cases hf : p.full now with
  | true =>
    refine ⟨fun x hx => ?_, fun x hx => ?_, fun x hx => ?_, fun _ => ?_, fun he => ?_⟩
    · rw [wt_full h0 hf] at hx; cases hx
    · rw [due_nt h0] at hx; rw [due_fs h0]; have := h.fst x hx; omega
    · rw [wt_full h0 hf] at hx; cases hx
    · rw [hr.1]
      have ht : (p.due now).told = now := by rw [due_is h0, if_pos hf]
      rw [ht]; omega
    · have ht : (p.due now).ever = true := by rw [due_is h0, if_pos hf]
      rw [ht] at he; cases he
  | false =>
    have hno := full_no hf
    have e := due_part h0 hf
    have ht := h.told hno.1
    refine ⟨fun x hx => ?_, fun x hx => ?_, fun x hx => ?_, fun _ => ?_, fun he => ?_⟩
    · rw [e, tell_wt] at hx; rw [e, tell_nt]; simp at hx; exact h.wn x hx.1
    · rw [e, tell_nt] at hx; rw [e, tell_fs]; have := h.fst x hx; omega
    · rw [e, tell_wt] at hx; simp at hx; rw [e]; have := h.snc x hx.1
      show 0 ≤ S x ∧ S x ≤ now + 1 ∧ (p.ever = true → p.told < S x)
      exact ⟨this.1, by omega, this.2.2⟩
    · rw [e]
      show 0 ≤ p.told ∧ p.told < now + 1 ∧ now + 1 - p.told ≤ p.period
      omega
    · rw [e] at he; rw [show (p.tell (p.dueL now)).ever = p.ever from rfl, hno.1] at he; cases he
theorem PI.start (a b : Int) (S : Int → Int) : PI (ps0 a b) 0 S := by
  have hw : ∀ x, wtM (ps0 a b) x = false := fun x => by simp [wtM, ps0, nw0]
  have hn : ∀ x, ntM (ps0 a b) x = false := fun x => by simp [ntM, ps0, nw0]
  exact ⟨fun x hx => (by rw [hw] at hx; cases hx), fun x hx => (by rw [hn] at hx; cases hx), fun x hx => (by rw [hw] at hx; cases hx), fun h => (by cases h), fun _ => rfl⟩
/-- The plan and its three maps, ahead of Due. -/
structure SM (p : PS) (now : Int) (S : Int → Int) (D1 D2 D3 : DataW Unit) : Prop where
  pi : PI p now S
  m1 : MS D1 (wtM p) S
  m2 : MS D2 (ntM p) (fsM p)
  m3 : MK D3 (ntM p) (kyM p)
theorem SM.start (a b : Int) : SM (ps0 a b) 0 (fun _ => 0) (.map []) (.map []) (.map []) :=
  ⟨PI.start a b _, MS.nil (fun x => by simp [wtM, ps0, nw0]) _, MS.nil (fun x => by simp [ntM, ps0, nw0]) _, MK.nil (fun x => by simp [ntM, ps0, nw0]) _⟩
/-- The maps behind a note. -/
def d1M (p : PS) (now d : Int) (D : DataW Unit) : DataW Unit := if wtM p d = true then D else D.put (kx d) (.lit (.int .i64 now))
def d2M (p : PS) (now d e s : Int) (D : DataW Unit) : DataW Unit := if nwM p d e s = true then D.put (kx d) (.lit (.int .i64 now)) else D
theorem SM.note {p : PS} {now d e s m : Int} {S : Int → Int} {u : Bool} {D1 D2 D3 : DataW Unit} (h : SM p now S D1 D2 D3) (hn : noteB now d e s m = true) (h0 : 0 ≤ now) : SM (p.note now d e s m u) now (sinM p S now d) (d1M p now d D1) (d2M p now d e s D2) (D3.put (kx d) (encK (e, s, m))) := by
  refine ⟨h.pi.note hn h0, ?_, ?_, ?_⟩
  · unfold d1M sinM
    cases hw : wtM p d with
    | true =>
      rw [if_pos rfl, if_pos rfl]
      exact h.m1.congr (fun x => by
        rw [note_wt hn]
        by_cases e : x = d
        · subst e; simp [hw]
        · simp [e]) (fun _ _ => rfl)
    | false =>
      rw [if_neg (by simp), if_neg (by simp)]
      exact (h.m1.put d now).congr (fun x => note_wt hn x) (fun _ _ => rfl)
  · unfold d2M
    cases hw : nwM p d e s with
    | true =>
      rw [if_pos rfl]
      exact (h.m2.put d now).congr (fun x => note_nt hn x) (fun x hx => by
        have h8 : 0 ≤ x ∧ x < 8 := in8 (p := p.note now d e s m u) (by rw [note_nt hn]; exact hx)
        rw [note_fs hn x h8, hw]
        rfl)
    | false =>
      rw [if_neg (by simp)]
      have hnt : ntM p d = true := by unfold nwM at hw; simp at hw; exact hw.1
      exact h.m2.congr (fun x => by
        rw [note_nt hn]
        by_cases e : x = d
        · subst e; simp [hnt]
        · simp [e]) (fun x hx => by
        rw [note_fs hn x (in8 hx), hw]
        by_cases e : x = d
        · subst e; simp
        · simp [e])
  · exact (h.m3.put d (e, s, m)).congr (fun x => note_nt hn x) (fun x hx => note_ky hn x (in8 (p := p.note now d e s m u) (by rw [note_nt hn]; exact hx)))
theorem SM.due {p : PS} {now : Int} {S : Int → Int} {D1 D1' D2 D3 : DataW Unit} (h : SM p now S D1' D2 D3) (h0 : 0 ≤ now ∧ now < 60) (hp : 1 ≤ p.period) (h1 : MS D1 (wtM (p.due now)) S) : SM (p.due now) (now + 1) S D1 D2 D3 :=
  ⟨h.pi.due h0 hp, h1, h.m2.congr (due_nt h0) (fun x _ => due_fs h0 x), h.m3.congr (due_nt h0) (fun x _ => due_ky h0 x)⟩
end Go.Proofs.Ytfnjfoconklhiaa
