/-
  Arrays of numbers in memory; a part of a row of bytes. Nothing of the program but the types' numbers is named here.
  The words of a block: sha.schedule.
  A sum that is under way, as it stands in memory; the constants; (*sha.Hash).compress.
  (*sha.Hash).compress: one block taken into the state.
  Bytes that stand apart from a block; a copy into the bytes that wait; what a sum under way has taken in.
  sha.New.
-/
import Derived.Test.YtibbinenhmiclaaDoorSn01
import Derived.StillTailTactics
import Derived.BigRegion
namespace Go.Proofs.YtibbinenhmiclaaDoor
open Go.RowKit

/-- The numbers of a list, as values of one kind. -/
abbrev kv (k : IntKind) (l : List Int) : List Value := l.map (Value.int k)
/-- Block b is an array of these numbers. -/
def Row (w : World) (b : Nat) (t : TypeId) (k : IntKind) (l : List Int) : Prop := Blk w b (.cells (kv k l).toArray t)
theorem Row.cell {w : World} {b : Nat} {t : TypeId} {k : IntKind} {l : List Int} (h : Row w b t k l) {i : Nat} (hi : i < l.length) : w.cell? ⟨b, i, none⟩ = some (.int k (l.getD i 0)) := by
  rw [Blk.cell h i]
  simp [List.getElem?_eq_getElem hi, List.getD_eq_getElem?_getD]
theorem Row.frozen {w : World} {b : Nat} {t : TypeId} {k : IntKind} {l : List Int} (h : Row w b t k l) (i : Nat) : w.frozen? ⟨b, i, none⟩ = false := Blk.frozen h i
theorem Row.lt {w : World} {b : Nat} {t : TypeId} {k : IntKind} {l : List Int} (h : Row w b t k l) : b < w.heap.size := Blk.lt h
theorem Row.set {w : World} {b : Nat} {t : TypeId} {k : IntKind} {l : List Int} (h : Row w b t k l) (i : Nat) (x : Int) : Row (w.setCell ⟨b, i, none⟩ (.int k x)) b t k (l.set i x) := by
  have := Blk.set h i (.int k x)
  unfold Row
  have e : ((kv k l).toArray.setIfInBounds i (.int k x)) = (kv k (l.set i x)).toArray := by
    simp [List.map_set]
  rw [← e]
  exact this
theorem Row.keep {w w' : World} {b : Nat} {t : TypeId} {k : IntKind} {l : List Int} (h : Row w b t k l) (hb : Below w.heap.size w w') : Row w' b t k l := Blk.keep h hb
theorem Row.upto {w w' : World} {b B : Nat} {t : TypeId} {k : IntKind} {l : List Int} (h : Row w b t k l) (hb : Below B w w') (hB : b < B) : Row w' b t k l := Blk.upto h hb hB
theorem Row.alloc {w : World} {b : Nat} {t : TypeId} {k : IntKind} {l : List Int} (h : Row w b t k l) (o : Obj) : Row (w.alloc o) b t k l := Blk.old h o
theorem Row.other {w : World} {b : Nat} {t : TypeId} {k : IntKind} {l : List Int} (h : Row w b t k l) {p : Addr} (hp : p.block ≠ b) (v : Value) : Row (w.setCell p v) b t k l := Blk.setOther h hp v
theorem Row.as {w : World} {b : Nat} {t : TypeId} {k : IntKind} {l m : List Int} (h : Row w b t k l) (e : l = m) : Row w b t k m := e ▸ h
theorem Row.drew {w : World} {b : Nat} {t : TypeId} {k : IntKind} {l : List Int} (h : Row w b t k l) : Row w.drew b t k l := h
theorem Row.drewN {w : World} {b : Nat} {t : TypeId} {k : IntKind} {l : List Int} (h : Row w b t k l) (n : Nat) : Row (w.drewN n) b t k l := h
theorem kv_all (k : IntKind) (l : List Int) : (kv k l).toArray.all (·.oneCell') = true := Array.all_eq_true_iff_forall_mem.2 fun v hv => by
  obtain ⟨x, _, rfl⟩ := List.mem_map.1 (show v ∈ kv k l by simpa using hv)
  rfl
theorem kv_size (k : IntKind) (l : List Int) : (kv k l).toArray.size = l.length := by simp
theorem Row.setRow {w : World} {b : Nat} {t : TypeId} {k : IntKind} {l : List Int} (h : Row w b t k l) (m : List Int) : Row (w.setRow b (kv k m).toArray) b t k m := Blk.setRow h _
theorem Row.otherRow {w : World} {b g : Nat} {t : TypeId} {k : IntKind} {l : List Int} (h : Row w b t k l) (hne : b ≠ g) (cs : Array Value) : Row (w.setRow g cs) b t k l := (setRow_other w g b cs hne).trans h
theorem below_drewN {B : Nat} {w w' : World} (h : Below B w w') (n : Nat) : Below B w (w'.drewN n) := ⟨h.os, h.tape, h.output, h.size, h.block⟩
/-- A fact that is kept out of every tactic's sight. -/
structure Kp (p : Prop) : Prop where
  out : p
theorem wp_world {P : Program} {c : Code} {Q : Exit → Act → World → Prop} {a : Act} {w : World} (F : World → Prop) (hF : F w) (h : ∀ w2, F w2 → Code.wp P c Q a w2) : Code.wp P c Q a w := h w hF
theorem wpl_world {P : Program} {ops : Array Oper} {l : List Oper} {Q : Exit → Act → World → Prop} {a : Act} {w : World} (F : World → Prop) (hF : F w) (h : ∀ w2, F w2 → wpList P ops Q l a w2) : wpList P ops Q l a w := h w hF
/-- l, and zeros behind it, n in all. -/
def fill (n : Nat) (l : List Int) : List Int := l ++ List.replicate (n - l.length) 0
theorem fill_len {n : Nat} {l : List Int} (h : l.length ≤ n) : (fill n l).length = n := by simp [fill]; omega
theorem fill_get {n i : Nat} {l : List Int} (h : i < l.length) : (fill n l).getD i 0 = l.getD i 0 := by
  simp [fill, List.getD_eq_getElem?_getD, List.getElem?_append_left h]
theorem fill_set {n : Nat} {l : List Int} (h : l.length < n) (x : Int) : (fill n l).set l.length x = fill n (l ++ [x]) := by
  unfold fill
  obtain ⟨m, hm⟩ : ∃ m, n - l.length = m + 1 := ⟨n - l.length - 1, by omega⟩
  rw [hm, List.set_append_right _ _ (Nat.le_refl _), Nat.sub_self, List.replicate_succ, List.set_cons_zero, List.append_assoc]
  have : n - (l ++ [x]).length = m := by simp; omega
  rw [this]
  rfl
theorem fill_full {n : Nat} {l : List Int} (h : l.length = n) : fill n l = l := by simp [fill, h]
theorem list_eq_getD {l m : List Int} (h : l.length = m.length) (he : ∀ i, i < l.length → l.getD i 0 = m.getD i 0) : l = m := by
  apply List.ext_getElem h
  intro i h1 h2
  have := he i h1
  simpa [List.getD_eq_getElem?_getD, List.getElem?_eq_getElem h1, List.getElem?_eq_getElem h2] using this

set_option maxRecDepth 100000 in
/-- v[i:j]. -/
theorem HoldsB.mid {w : World} {M : Nat} {v : Value} {l : List Int} (h : HoldsB w M v l) {i j : Nat} (hi : i ≤ j) (hj : j ≤ l.length) :
    ∃ v', (∀ w1, (Instr.sliceAt 131 v (some (.int .i64 i)) (some (.int .i64 j)) none).run Tryd.prog w1 = .ok v' w1) ∧ HoldsB w M v' ((l.drop i).take (j - i)) := by
  obtain ⟨a, cap, rfl, h2, h3, h4, h5, h6, h7⟩ := h
  refine ⟨sliced a i j cap 1, fun w1 => ?_, ?_⟩
  · rw [run_sliceAt_slice (h := Tryd.underlying131), run_slice_lh (ht := Tryd.underlying131) (h0 := by omega) (h1 := by omega) (h2 := by omega), elem22, size5]
    simp [Result.andThen]
  · have hlen : ((l.drop i).take (j - i)).length = j - i := by simp; omega
    by_cases hc : cap = i
    · refine ⟨a, cap - i, ?_, by rw [hlen]; omega, by omega, fun e => by have := h4 e; omega, fun x hx h0 => ?_, fun x k hx hk => ?_, (h7.drop i).take _⟩
      · unfold sliced
        rw [if_pos hc, hlen]
      · rw [hlen] at h0; omega
      · rw [hlen] at hk; omega
    · refine ⟨a.map (·.add (i * 1)), cap - i, ?_, by rw [hlen]; omega, by omega, fun e => ?_, fun x hx h0 => ?_, fun x k hx hk => ?_, (h7.drop i).take _⟩
      · unfold sliced
        rw [if_neg hc, hlen]
      · cases a with
        | none => have := h4 rfl; omega
        | some y => simp at e
      · cases a with
        | none => simp at hx
        | some y =>
          simp only [Option.map_some, Option.some.injEq] at hx
          subst hx
          have := h5 y rfl (by rw [hlen] at h0; omega)
          unfold Addr.add
          split <;> simp_all
      · cases a with
        | none => simp at hx
        | some y =>
          simp only [Option.map_some, Option.some.injEq] at hx
          subst hx
          rw [hlen] at hk
          rw [take_getD (by omega), drop_getD]
          have := h6 y (i + k) rfl (by omega)
          have e1 : (y.add (i * 1)).block = y.block := by unfold Addr.add; split <;> rfl
          have e2 : (y.add (i * 1)).off = y.off + i := by unfold Addr.add; split <;> simp_all
          rw [e1, e2, Nat.add_assoc]
          exact this
/-- The cells of a row of bytes that is not empty. -/
theorem HoldsB.open {w : World} {M : Nat} {v : Value} {l : List Int} (h : HoldsB w M v l) (h0 : 0 < l.length) :
    ∃ b off cap, v = .slice (some ⟨b, off, none⟩) l.length cap ∧ l.length ≤ cap ∧ cap ≤ maxLen ∧ b < M ∧ b < w.heap.size ∧ ∀ i, i < l.length → w.cell? ⟨b, off + i, none⟩ = some (.int .u8 (l.getD i 0)) := by
  obtain ⟨a, cap, rfl, h2, h3, h4, h5, h6, h7⟩ := h
  cases a with
  | none => have := h4 rfl; omega
  | some x =>
    obtain ⟨hs, hM, hw⟩ := h5 x rfl h0
    obtain ⟨b, off, spot⟩ := x
    simp only at hs hM hw
    subst hs
    exact ⟨b, off, cap, rfl, h2, h3, hM, hw, fun i hi => h6 _ i rfl hi⟩
/-- Bytes that stand in an array of bytes, from a place on. -/
theorem HoldsB.ofRow2 {w : World} {b off n cap : Nat} {t : TypeId} {cs : Array Value} {fr : Nat × Nat} {l : List Int} (h : Blk w b (.cells cs t fr)) (hn : n = l.length) (hc : n ≤ cap) (hm : cap ≤ maxLen)
    (hcs : ∀ i, i < l.length → cs[off + i]? = some (.int .u8 (l.getD i 0))) (hb : Bytes l) : HoldsB w w.heap.size (.slice (some ⟨b, off, none⟩) n cap) l := by
  subst hn
  refine ⟨_, cap, rfl, hc, hm, (fun e => by cases e), (fun x hx _ => by cases hx; exact ⟨rfl, h.lt, h.lt⟩), (fun x i hx hi => ?_), hb⟩
  cases hx
  rw [h.cell]
  exact hcs i hi
end Go.Proofs.YtibbinenhmiclaaDoor

namespace Go.Proofs.YtibbinenhmiclaaDoor
open Go.RowKit

theorem HoldsB.four {w : World} {M : Nat} {v : Value} {l : List Int} (h : HoldsB w M v l) (hl : l.length = 4) :
    ∃ b off cap x0 x1 x2 x3, v = .slice (some ⟨b, off, none⟩) 4 cap ∧ b < w.heap.size ∧ l = [x0, x1, x2, x3] ∧ w.cell? ⟨b, off, none⟩ = some (.int .u8 x0) ∧ w.cell? ⟨b, off + 1, none⟩ = some (.int .u8 x1) ∧
      w.cell? ⟨b, off + 2, none⟩ = some (.int .u8 x2) ∧ w.cell? ⟨b, off + 3, none⟩ = some (.int .u8 x3) ∧ (0 ≤ x0 ∧ x0 ≤ 255) ∧ (0 ≤ x1 ∧ x1 ≤ 255) ∧ (0 ≤ x2 ∧ x2 ≤ 255) ∧ (0 ≤ x3 ∧ x3 ≤ 255) := by
  obtain ⟨b, off, cap, rfl, _, _, _, hb, hc⟩ := h.open (by omega)
  have hy := h.bytes
  match l, hl with
  | [x0, x1, x2, x3], _ =>
    exact ⟨b, off, cap, x0, x1, x2, x3, rfl, hb, rfl, hc 0 (by simp), hc 1 (by simp), hc 2 (by simp), hc 3 (by simp), hy x0 (by simp), hy x1 (by simp), hy x2 (by simp), hy x3 (by simp)⟩
theorem word_of {l : List Int} {t : Nat} {x0 x1 x2 x3 : Int} (h : (l.drop (4 * t)).take (4 * t + 4 - 4 * t) = [x0, x1, x2, x3]) : word l t = ((x0 * 256 + x1) * 256 + x2) * 256 + x3 := by
  have g : ∀ i, i < 4 → l.getD (4 * t + i) 0 = [x0, x1, x2, x3].getD i 0 := fun i hi => by
    rw [← h, take_getD (by omega), drop_getD]
  have h0 := g 0 (by omega)
  have h1 := g 1 (by omega)
  have h2 := g 2 (by omega)
  have h3 := g 3 (by omega)
  simp only [Nat.add_zero, List.getD_cons_zero, List.getD_cons_succ] at h0 h1 h2 h3
  unfold word
  rw [h0, h1, h2, h3]
theorem or32 (a b : Nat) (i : Nat) (ha : a % 2 ^ i = 0) (h2 : a < 4294967296) (hb : b < 2 ^ i) (h3 : b < 4294967296) : bits .or .u32 (a : Int) (b : Int) = ((a + b : Nat) : Int) := by
  rw [u32_or_nat a b h2 h3, nat_join i a b ha hb]
theorem word_or (x0 x1 x2 x3 : Int) (h0 : 0 ≤ x0 ∧ x0 ≤ 255) (h1 : 0 ≤ x1 ∧ x1 ≤ 255) (h2 : 0 ≤ x2 ∧ x2 ≤ 255) (h3 : 0 ≤ x3 ∧ x3 ≤ 255) :
    bits .or .u32 (bits .or .u32 (bits .or .u32 (x0 * 16777216) (x1 * 65536)) (x2 * 256)) x3 = ((x0 * 256 + x1) * 256 + x2) * 256 + x3 := by
  obtain ⟨a0, rfl⟩ : ∃ n : Nat, x0 = n := ⟨x0.toNat, by omega⟩
  obtain ⟨a1, rfl⟩ : ∃ n : Nat, x1 = n := ⟨x1.toNat, by omega⟩
  obtain ⟨a2, rfl⟩ : ∃ n : Nat, x2 = n := ⟨x2.toNat, by omega⟩
  obtain ⟨a3, rfl⟩ : ∃ n : Nat, x3 = n := ⟨x3.toNat, by omega⟩
  rw [show (a0 : Int) * 16777216 = ((a0 * 16777216 : Nat) : Int) by omega, show (a1 : Int) * 65536 = ((a1 * 65536 : Nat) : Int) by omega, show (a2 : Int) * 256 = ((a2 * 256 : Nat) : Int) by omega]
  rw [or32 _ _ 24 (by omega) (by omega) (by omega) (by omega), or32 _ _ 16 (by omega) (by omega) (by omega) (by omega), or32 _ _ 8 (by omega) (by omega) (by omega) (by omega)]
  omega

theorem words_step (l : List Int) (k : Nat) : (List.range (k + 1)).map (word l) = (List.range k).map (word l) ++ [word l k] := by rw [List.range_succ, List.map_append]; rfl
theorem zeros64 : (kv .u32 (fill 64 ((List.range 0).map (word [])))).toArray = (kv .u32 (fill 64 [])).toArray := rfl
theorem info70 : (Tryd.prog.info? 167).map (·.size) = some 64 := by kernel_rfl
theorem cells70 {l : List Int} (h : l.length = 64) : (Tryd.prog.info? 167).map (·.size) = some (kv .u32 l).toArray.size := by rw [info70, kv_size, h]
set_option maxRecDepth 100000 in
set_option maxHeartbeats 1000000 in
theorem schedule_any (M : Nat) (v : Value) (l : List Int) (w : World) (h : HoldsB w M v l) (hl : l.length = 64) :
    Calls Tryd.prog 107 #[v] w fun r w' => r = .returned (.agg ((sched l 48).map (Value.int .u32)).toArray) ∧ Below w.heap.size w w' := by
  have H := Lib.hid h
  have HL := Lib.hid hl
  clear h hl
  go_enter Tryd.func107, Tryd.ntmps107
  go_wp2_with fail
  go_loopw [9] (fun c wr => ∃ k : Nat, k ≤ 16 ∧ c = .int .i64 k ∧ Row wr (w.heap.size + 1) 167 .u32 (fill 64 ((List.range k).map (word l))) ∧ Row wr w.heap.size 167 .u32 (fill 64 []) ∧ Below w.heap.size w wr) (fun c _ => 16 - (intOf c).toNat)
  case atStart =>
    refine ⟨0, by omega, rfl, ?_, ?_, ?_⟩
    · exact Blk.newAt _ (by simp)
    · exact Blk.old (Blk.newAt _ rfl) _
    · exact more (more (Below.refl _ _) _) _
  case round =>
    obtain ⟨k, hk, rfl, hrow, hres, hbel⟩ := hrel
    have HR := Lib.hid hrow
    have HS := Lib.hid hres
    have HBe := Lib.hid hbel
    clear hrow hres hbel
    by_cases hlt : k < 16
    · obtain ⟨v1, hv1, hh⟩ := (H.out.keep (HBe.out)).mid (i := 4 * k) (j := 4 * k + 4) (by omega) (by have := HL.out; omega)
      obtain ⟨b, off, cap, x0, x1, x2, x3, rfl, hb, he, c0, c1, c2, c3, r0, r1, r2, r3⟩ := hh.four (by have := HL.out; simp; omega)
      have HW := Lib.hid ((word_of he).trans (word_or x0 x1 x2 x3 r0 r1 r2 r3).symm)
      simp only [show ((4 * k + 4 : Nat) : Int) = 4 * (k : Int) + 4 from by omega, show ((4 * k : Nat) : Int) = 4 * (k : Int) from by omega] at hv1
      clear hh he
      go_wp2_with fail
      have k64 : (k : Int) < 64 := by omega
      go_still_tail 24, (by kernel_rfl)
      change wpList _ _ _ _ _ wr.drew
      have HR2 := Lib.hid HR.out.drew
      have HS2 := Lib.hid HS.out.drew
      have HB2 := Lib.hid HBe.out.drew
      clear HR HS HBe c0 c1 c2 c3
      generalize wr.drew = w2 at *
      have cw := (HR2.out.cell (i := k) (by rw [fill_len (by simp; omega)]; omega))
      have fw := HR2.out.frozen k
      go_wp2_with fail
      go_roundw
      case rel =>
        refine ⟨k + 1, by omega, by go_num, ?_, ?_, ?_⟩
        · rw [← HW.out]
          refine (HR2.out.set k (word l k)).as ?_
          rw [words_step, ← fill_set (by simp; omega)]
          simp
        · exact HS2.out.other (by simp) _
        · exact HB2.out.setCell (by simp) _
      case measure => simp [intOf]; omega
    · have HK : Hid (k = 16) := by show _ = _; omega
      have HRk : Hid (Row wr (w.heap.size + 1) 167 .u32 (fill 64 (sched l 0))) := by
        have h := HR.out
        rw [HK.out] at h
        exact h
      have hge : 16 ≤ (k : Int) := by omega
      clear hlt HR hk
      go_wp2_with fail
      clear hge
      go_loopw [44] (fun c wq => ∃ k : Nat, k ≤ 48 ∧ c = .int .i64 k ∧ Row wq (w.heap.size + 1) 167 .u32 (fill 64 (sched l k)) ∧ Row wq w.heap.size 167 .u32 (fill 64 []) ∧ Below w.heap.size w wq) (fun c _ => 48 - (intOf c).toNat)
      case atStart => exact ⟨0, by omega, rfl, HRk.out, HS.out, HBe.out⟩
      case round =>
        obtain ⟨j, hk2, rfl, hrow, hres, hbel⟩ := hrel
        have HR1 := Lib.hid hrow
        have HS1 := Lib.hid hres
        have HBe1 := Lib.hid hbel
        clear hrow hres hbel HRk HS HBe
        by_cases hlt : j < 48
        · have hsl := sched_len l j
          have cell : ∀ i, i < 16 + j → wr.cell? ⟨w.heap.size + 1, i, none⟩ = some (.int .u32 ((sched l j).getD i 0)) := fun i hi => by
            rw [HR1.out.cell (i := i) (by rw [fill_len (by omega)]; omega), fill_get (by omega)]
          have c0 := cell j (by omega)
          have c1 := cell (j + 1) (by omega)
          have c9 := cell (j + 9) (by omega)
          have c14 := cell (j + 14) (by omega)
          clear cell
          have hst : sched l (j + 1) = sched l j ++ [w32 (w32 (w32 ((sched l j).getD j 0 + sm0 ((sched l j).getD (j + 1) 0)) + (sched l j).getD (j + 9) 0) + sm1 ((sched l j).getD (j + 14) 0))] := rfl
          generalize (sched l j).getD j 0 = y0 at *
          generalize (sched l j).getD (j + 1) 0 = y1 at *
          generalize (sched l j).getD (j + 9) 0 = y9 at *
          generalize (sched l j).getD (j + 14) 0 = y14 at *
          have HT := Lib.hid hst
          have HN := Lib.hid hsl
          clear hst hsl
          have k48 : (j : Int) < 48 := by omega
          go_wp2_with fail
          go_quiet (fail)
          go_wp2_with fail
          refine (rotl _ 7 (-7) _ (by decide) (by decide) (by decide)).mono ?_
          rintro r w1 ⟨rfl, rfl⟩
          go_wp2_with fail
          refine (rotl _ 18 (-18) _ (by decide) (by decide) (by decide)).mono ?_
          rintro r w1 ⟨rfl, rfl⟩
          go_wp2_with fail
          refine (rotl _ 17 (-17) _ (by decide) (by decide) (by decide)).mono ?_
          rintro r w1 ⟨rfl, rfl⟩
          go_wp2_with fail
          refine (rotl _ 19 (-19) _ (by decide) (by decide) (by decide)).mono ?_
          rintro r w1 ⟨rfl, rfl⟩
          go_wp2_with fail
          have HR2 := Lib.hid (HR1.out.drewN nq)
          have HS2 := Lib.hid (HS1.out.drewN nq)
          have HB2 := Lib.hid (below_drewN HBe1.out nq)
          have d0 : (wr.drewN nq).cell? ⟨w.heap.size + 1, j, none⟩ = some (.int .u32 y0) := c0
          have d9 : (wr.drewN nq).cell? ⟨w.heap.size + 1, j + 9, none⟩ = some (.int .u32 y9) := c9
          clear HR1 HS1 HBe1 c0 c1 c9 c14
          generalize wr.drewN nq = w1 at *
          have e16 : IntKind.i64.wrap ((j : Int) + 16) = (j : Int) + 16 := IntWalk.i64_in _ (by omega)
          have e9 : IntKind.i64.wrap ((j : Int) + 9) = (j : Int) + 9 := IntWalk.i64_in _ (by omega)
          have a0 : (j : Int) < 64 := by omega
          have a9 : (j : Int) + 9 < 64 := by omega
          have a16 : (j : Int) + 16 < 64 := by omega
          have p9 : 0 ≤ (j : Int) + 9 := by omega
          have p16 : 0 ≤ (j : Int) + 16 := by omega
          have n9 : ((j : Int) + 9).toNat = j + 9 := by omega
          have n16 : ((j : Int) + 16).toNat = j + 16 := by omega
          go_still_tail 15, (by kernel_rfl)
          clear e16 e9 p9 p16 n9 n16 a0 a9 d0 d9
          change wpList _ _ _ _ _ w1.drew
          have HR3 := Lib.hid HR2.out.drew
          have HS3 := Lib.hid HS2.out.drew
          have HB3 := Lib.hid HB2.out.drew
          clear HR2 HS2 HB2
          generalize w1.drew = w2 at *
          have cw := (HR3.out.cell (i := j + 16) (by rw [fill_len (by have := HN.out; omega)]; omega))
          have fw := HR3.out.frozen (j + 16)
          go_wp2_with fail
          go_roundw
          case rel =>
            refine ⟨j + 1, by omega, by go_num, ?_, ?_, ?_⟩
            · refine (HR3.out.set (j + 16) _).as ?_
              have h2 := fill_set (n := 64) (l := sched l j) (by have := HN.out; omega) (w32 (w32 (w32 (y0 + sm0 y1) + y9) + sm1 y14))
              rw [HT.out, ← h2, HN.out, Nat.add_comm 16 j]
              congr 1
              unfold w32 sm0 sm1
              simp only [w32_mod]
              omega
            · exact HS3.out.other (by simp) _
            · exact HB3.out.setCell (by simp) _
          case measure => simp [intOf]; omega
        · obtain rfl : j = 48 := by omega
          clear hlt
          have hf : fill 64 (sched l 48) = sched l 48 := fill_full (by rw [sched_len])
          have HR2 : Hid (Row wr (w.heap.size + 1) 167 .u32 (sched l 48)) := HR1.out.as hf
          have HC := Lib.hid (cells70 (l := sched l 48) (by rw [sched_len]))
          have HR3 := Lib.hid ((HS1.out.setRow (sched l 48)))
          have hsz := HS1.out.lt
          have HZ : Hid ((kv .u32 (fill 64 [])).toArray.size = (kv .u32 (sched l 48)).toArray.size) := by show _ = _; rw [kv_size, kv_size, sched_len]; rfl
          have HB3 := Lib.hid (Below.row HBe1.out (g := w.heap.size) (Nat.le_refl _) (kv .u32 (sched l 48)).toArray)
          clear hf HR1 hsz
          go_wp2_with (first
            | (refine wpList_load_row rfl 167 (.tmp 3) rfl (w.heap.size + 1) rfl 167 (kv .u32 (sched l 48)).toArray (0, 0) _ HR2.out Tryd.underlying167 rfl HC.out ?_)
            | (refine wpList_store_row rfl 167 (.tmp 2) (.tmp 87) rfl w.heap.size (kv .u32 (sched l 48)).toArray rfl rfl 167 _ HS1.out HC.out HZ.out (kv_all _ _) ?_))
          refine bodyPost_ret (v := .agg (kv .u32 (sched l 48)).toArray) ?_ rfl ⟨rfl, HB3.out⟩
          exact results_cell_row rfl _ _ w.heap.size 167 _ (0, 0) _ rfl HR3.out Tryd.underlying167 rfl HC.out
end Go.Proofs.YtibbinenhmiclaaDoor

namespace Go.Proofs.YtibbinenhmiclaaDoor
open Go.RowKit

/-- The package's variable holds the standard's constants. -/
def KonIs (w : World) : Prop := ∀ i, i < 64 → w.cell? ⟨0, i, none⟩ = some (.int .u32 (kon.getD i 0))
theorem KonIs.pos {w : World} (h : KonIs w) : 0 < w.heap.size := World.block_lt_of_cell? w _ (h 0 (by omega))
theorem KonIs.frame {w w' : World} (h : KonIs w) (hb : w'.heap[0]? = w.heap[0]?) : KonIs w' := fun i hi => (World.cell?_of_block (w := w) (a := ⟨0, i, none⟩) hb).trans (h i hi)
theorem KonIs.keep {w w' : World} (h : KonIs w) (hb : Below w.heap.size w w') : KonIs w' := h.frame (hb.block 0 h.pos)
theorem KonIs.turn {w w' : World} {b : Nat} {o : Obj} (h : KonIs w) (hb : Turn b o w w') (h0 : 0 < b) : KonIs w' := h.frame (hb.other 0 h.pos (by omega))
/-- The cells of a sum under way: the state's numbers, the bytes that wait, how many were taken. -/
def hashCells (sl rest : List Int) (n : Int) : List Value := kv .u32 sl ++ (kv .u8 rest ++ [.int .i64 n])
abbrev hashObj (sl rest : List Int) (n : Int) : Obj := .cells (hashCells sl rest n).toArray 164
theorem hash_state {sl rest : List Int} {n : Int} {i : Nat} (h : i < sl.length) : (hashCells sl rest n).toArray[i]? = some (.int .u32 (sl.getD i 0)) := by
  simp [hashCells, List.getElem?_append_left, h, List.getD_eq_getElem?_getD]
theorem hash_rest {sl rest : List Int} {n : Int} {i : Nat} (hs : sl.length = 8) (h : i < rest.length) : (hashCells sl rest n).toArray[8 + i]? = some (.int .u8 (rest.getD i 0)) := by
  simp only [hashCells, List.getElem?_toArray]
  rw [List.getElem?_append_right (by simp; omega), List.length_map, hs, Nat.add_sub_cancel_left, List.getElem?_append_left (by simpa using h)]
  simp [h, List.getD_eq_getElem?_getD]
theorem hash_taken {sl rest : List Int} {n : Int} (hs : sl.length = 8) (hr : rest.length = 64) : (hashCells sl rest n).toArray[72]? = some (.int .i64 n) := by
  simp only [hashCells, List.getElem?_toArray]
  rw [List.getElem?_append_right (by simp; omega), List.length_map, hs, List.getElem?_append_right (by simp; omega), List.length_map, hr]
  rfl
theorem hash_set {sl rest : List Int} {n : Int} {i : Nat} (h : i < sl.length) (x : Int) : (hashCells sl rest n).toArray.setIfInBounds i (.int .u32 x) = (hashCells (sl.set i x) rest n).toArray := by
  simp only [hashCells, List.setIfInBounds_toArray]
  congr 1
  rw [List.set_append_left _ _ (by simpa using h)]
  unfold kv
  rw [List.map_set]
theorem hash_size {sl rest : List Int} {n : Int} (hs : sl.length = 8) (hr : rest.length = 64) : (hashCells sl rest n).toArray.size = 73 := by
  simp [hashCells, hs, hr]
theorem list_len (s : St) : s.list.length = 8 := rfl
/-- Of two states the first k numbers of the one, the others of the other. -/
def mix (x y : St) (k : Nat) : List Int := y.list.take k ++ x.list.drop k
theorem mix_len (x y : St) (k : Nat) (h : k ≤ 8) : (mix x y k).length = 8 := by simp [mix, list_len]; omega
theorem mix_zero (x y : St) : mix x y 0 = x.list := by simp [mix]
theorem mix_full (x y : St) : mix x y 8 = y.list := by simp [mix, St.list]
theorem mix_get (x y : St) (k : Nat) (h : k < 8) : (mix x y k).getD k 0 = x.list.getD k 0 := by
  match k, h with
  | 0, _ => rfl
  | 1, _ => rfl
  | 2, _ => rfl
  | 3, _ => rfl
  | 4, _ => rfl
  | 5, _ => rfl
  | 6, _ => rfl
  | 7, _ => rfl
theorem mix_set (x y : St) (k : Nat) (h : k < 8) (v : Int) (hv : v = y.list.getD k 0) : (mix x y k).set k v = mix x y (k + 1) := by
  subst hv
  match k, h with
  | 0, _ => rfl
  | 1, _ => rfl
  | 2, _ => rfl
  | 3, _ => rfl
  | 4, _ => rfl
  | 5, _ => rfl
  | 6, _ => rfl
  | 7, _ => rfl
theorem add_get (x y : St) (k : Nat) (h : k < 8) : (x.add y).list.getD k 0 = (x.list.getD k 0 + y.list.getD k 0) % 4294967296 := by
  match k, h with
  | 0, _ => exact w32_mod _
  | 1, _ => exact w32_mod _
  | 2, _ => exact w32_mod _
  | 3, _ => exact w32_mod _
  | 4, _ => exact w32_mod _
  | 5, _ => exact w32_mod _
  | 6, _ => exact w32_mod _
  | 7, _ => exact w32_mod _
theorem index68 (x : St) (k : Nat) (h : k < 8) (w : World) :
    (Instr.index 162 (.agg #[.int .u32 x.a, .int .u32 x.b, .int .u32 x.c, .int .u32 x.d, .int .u32 x.e, .int .u32 x.f, .int .u32 x.g, .int .u32 x.h]) (.int .i64 k)).run Tryd.prog w = .ok (.int .u32 (x.list.getD k 0)) w := by
  have i0 : ∀ a b c d e f g h : Int, (Instr.index 162 (.agg #[.int .u32 a, .int .u32 b, .int .u32 c, .int .u32 d, .int .u32 e, .int .u32 f, .int .u32 g, .int .u32 h]) (.int .i64 0)).run Tryd.prog w = .ok (.int .u32 a) w := fun _ _ _ _ _ _ _ _ => by kernel_rfl
  have i1 : ∀ a b c d e f g h : Int, (Instr.index 162 (.agg #[.int .u32 a, .int .u32 b, .int .u32 c, .int .u32 d, .int .u32 e, .int .u32 f, .int .u32 g, .int .u32 h]) (.int .i64 1)).run Tryd.prog w = .ok (.int .u32 b) w := fun _ _ _ _ _ _ _ _ => by kernel_rfl
  have i2 : ∀ a b c d e f g h : Int, (Instr.index 162 (.agg #[.int .u32 a, .int .u32 b, .int .u32 c, .int .u32 d, .int .u32 e, .int .u32 f, .int .u32 g, .int .u32 h]) (.int .i64 2)).run Tryd.prog w = .ok (.int .u32 c) w := fun _ _ _ _ _ _ _ _ => by kernel_rfl
  have i3 : ∀ a b c d e f g h : Int, (Instr.index 162 (.agg #[.int .u32 a, .int .u32 b, .int .u32 c, .int .u32 d, .int .u32 e, .int .u32 f, .int .u32 g, .int .u32 h]) (.int .i64 3)).run Tryd.prog w = .ok (.int .u32 d) w := fun _ _ _ _ _ _ _ _ => by kernel_rfl
  have i4 : ∀ a b c d e f g h : Int, (Instr.index 162 (.agg #[.int .u32 a, .int .u32 b, .int .u32 c, .int .u32 d, .int .u32 e, .int .u32 f, .int .u32 g, .int .u32 h]) (.int .i64 4)).run Tryd.prog w = .ok (.int .u32 e) w := fun _ _ _ _ _ _ _ _ => by kernel_rfl
  have i5 : ∀ a b c d e f g h : Int, (Instr.index 162 (.agg #[.int .u32 a, .int .u32 b, .int .u32 c, .int .u32 d, .int .u32 e, .int .u32 f, .int .u32 g, .int .u32 h]) (.int .i64 5)).run Tryd.prog w = .ok (.int .u32 f) w := fun _ _ _ _ _ _ _ _ => by kernel_rfl
  have i6 : ∀ a b c d e f g h : Int, (Instr.index 162 (.agg #[.int .u32 a, .int .u32 b, .int .u32 c, .int .u32 d, .int .u32 e, .int .u32 f, .int .u32 g, .int .u32 h]) (.int .i64 6)).run Tryd.prog w = .ok (.int .u32 g) w := fun _ _ _ _ _ _ _ _ => by kernel_rfl
  have i7 : ∀ a b c d e f g h : Int, (Instr.index 162 (.agg #[.int .u32 a, .int .u32 b, .int .u32 c, .int .u32 d, .int .u32 e, .int .u32 f, .int .u32 g, .int .u32 h]) (.int .i64 7)).run Tryd.prog w = .ok (.int .u32 h) w := fun _ _ _ _ _ _ _ _ => by kernel_rfl
  match k, h with
  | 0, _ => exact i0 ..
  | 1, _ => exact i1 ..
  | 2, _ => exact i2 ..
  | 3, _ => exact i3 ..
  | 4, _ => exact i4 ..
  | 5, _ => exact i5 ..
  | 6, _ => exact i6 ..
  | 7, _ => exact i7 ..
end Go.Proofs.YtibbinenhmiclaaDoor

namespace Go.Proofs.YtibbinenhmiclaaDoor
open Go.RowKit

theorem rnds_succ (s : St) (ws : List Int) (k : Nat) : rnds s ws (k + 1) = round (rnds s ws k) (kon.getD k 0) (ws.getD k 0) := rfl
theorem step1_eq (t : St) (kk ww T : Int) (h : (((t.h + bits BinOp.xor IntKind.u32 (bits BinOp.xor IntKind.u32 (rot t.e 6) (rot t.e 11)) (rot t.e 25) + bits BinOp.xor IntKind.u32 (bits BinOp.and IntKind.u32 t.e t.f)
    (bits BinOp.and IntKind.u32 (bits BinOp.xor IntKind.u32 (if IntKind.u32.signed = true then -1 else IntKind.u32.max) t.e) t.g) + kk) % 4294967296 + ww) % 4294967296 = T)) : T = step1 t kk ww := by
  rw [← h]
  unfold step1 w32 bg1 chs inv
  rw [show (if IntKind.u32.signed = true then -1 else IntKind.u32.max) = (4294967295 : Int) from rfl]
  simp only [w32_mod]
  omega
theorem round_a (t : St) (kk ww : Int) : (round t kk ww).a = (step1 t kk ww + (bits BinOp.xor IntKind.u32 (bits BinOp.xor IntKind.u32 (rot t.a 2) (rot t.a 13)) (rot t.a 22) + bits BinOp.xor IntKind.u32
    (bits BinOp.xor IntKind.u32 (bits BinOp.and IntKind.u32 t.a t.b) (bits BinOp.and IntKind.u32 t.a t.c)) (bits BinOp.and IntKind.u32 t.b t.c)) % 4294967296) % 4294967296 := by
  unfold round step2 w32 bg0 maj
  simp only [w32_mod]
theorem round_e (t : St) (kk ww : Int) : (round t kk ww).e = (t.d + step1 t kk ww) % 4294967296 := by
  unfold round w32
  simp only [w32_mod]
abbrev z70 : Obj := .cells (kv .u32 (fill 64 [])).toArray 167
set_option maxRecDepth 100000 in
set_option maxHeartbeats 2000000 in
theorem compress_any (M b : Nat) (s : St) (rest : List Int) (n : Int) (v : Value) (l : List Int) (w : World) (hk : KonIs w) (hB : Blk w b (hashObj s.list rest n)) (hr : rest.length = 64) (h : HoldsB w M v l) (hl : l.length = 64) :
    Calls Tryd.prog 104 #[.pointer (some ⟨b, 0, none⟩), v] w fun r w' => r = .returned (.tuple #[]) ∧ Turn b (hashObj (block s l).list rest n) w w' := by
  have HK := Lib.hid hk
  have HB := Lib.hid hB
  have HR := Lib.hid hr
  have H := Lib.hid h
  have HL := Lib.hid hl
  clear hk hB hr h hl
  go_enter Tryd.func104, Tryd.ntmps104
  go_wp2_with fail
  refine (schedule_any M v l _ H.out HL.out).mono ?_
  rintro r w1 ⟨rfl, h1⟩
  have HB1 := Lib.hid h1
  have HC := Kp.mk (cells70 (l := sched l 48) (by rw [sched_len]))
  have HZ : Kp ((kv .u32 (fill 64 [])).toArray.size = (kv .u32 (sched l 48)).toArray.size) := ⟨by rw [kv_size, kv_size, sched_len]; rfl⟩
  clear h1
  go_wp2_with (first
    | (refine wpList_store_row rfl 167 (.tmp 4) (.tmp 20) rfl w1.heap.size (kv .u32 (sched l 48)).toArray rfl rfl 167 _ (Blk.new w1 z70) HC.out HZ.out (kv_all _ _) ?_))
  refine wp_world (fun w2 => Row w2 w1.heap.size 167 .u32 (sched l 48) ∧ Below w.heap.size w w2) ⟨Row.setRow (k := .u32) (l := fill 64 []) (Blk.new w1 z70) _, Below.row (more HB1.out z70) HB1.out.size _⟩ ?_
  rintro w2 ⟨hw2, hb2⟩
  have HW2 := Lib.hid hw2
  have HB2 := Lib.hid hb2
  have cell : ∀ i, i < 8 → w2.cell? ⟨b, i, none⟩ = some (.int .u32 (s.list.getD i 0)) := fun i hi => by
    rw [(HB.out.upto hb2 HB.out.lt).cell, hash_state (by rw [list_len]; omega)]
  have c0 : w2.cell? ⟨b, 0, none⟩ = some (.int .u32 s.a) := cell 0 (by omega)
  have c1 : w2.cell? ⟨b, 1, none⟩ = some (.int .u32 s.b) := cell 1 (by omega)
  have c2 : w2.cell? ⟨b, 2, none⟩ = some (.int .u32 s.c) := cell 2 (by omega)
  have c3 : w2.cell? ⟨b, 3, none⟩ = some (.int .u32 s.d) := cell 3 (by omega)
  have c4 : w2.cell? ⟨b, 4, none⟩ = some (.int .u32 s.e) := cell 4 (by omega)
  have c5 : w2.cell? ⟨b, 5, none⟩ = some (.int .u32 s.f) := cell 5 (by omega)
  have c6 : w2.cell? ⟨b, 6, none⟩ = some (.int .u32 s.g) := cell 6 (by omega)
  have c7 : w2.cell? ⟨b, 7, none⟩ = some (.int .u32 s.h) := cell 7 (by omega)
  have HB3 := Lib.hid (HB.out.upto hb2 HB.out.lt)
  have HK2 := Lib.hid (HK.out.keep hb2)
  clear hw2 hb2 cell
  go_wp2_with fail
  go_quiet (fail)
  go_wp2_with fail
  go_quiet (fail)
  go_wp2_with fail
  go_loopw [5, 6, 7, 8, 9, 10, 11, 12, 61] (fun xa xb xc xd xe xf xg xh c wr => ∃ (k : Nat) (ta tb tc td te tf tg th : Int), k ≤ 64 ∧ c = .int .i64 k ∧ Kp (St.mk ta tb tc td te tf tg th = rnds s (sched l 48) k) ∧ xa = .int .u32 ta ∧ xb = .int .u32 tb ∧ xc = .int .u32 tc ∧ xd = .int .u32 td ∧
    xe = .int .u32 te ∧ xf = .int .u32 tf ∧ xg = .int .u32 tg ∧ xh = .int .u32 th ∧ Row wr w1.heap.size 167 .u32 (sched l 48) ∧ Below w.heap.size w wr) (fun _ _ _ _ _ _ _ _ c _ => 64 - (intOf c).toNat)
  case atStart => exact ⟨0, s.a, s.b, s.c, s.d, s.e, s.f, s.g, s.h, by omega, rfl, ⟨rfl⟩, rfl, rfl, rfl, rfl, rfl, rfl, rfl, rfl, HW2.out, by exact below_drewN (below_drewN HB2.out _) _⟩
  case round =>
    obtain ⟨k, ta, tb, tc, td, te, tf, tg, th, hk, rfl, HT, rfl, rfl, rfl, rfl, rfl, rfl, rfl, rfl, hrow, hbel⟩ := hrel
    have HRo := Lib.hid hrow
    have HBe := Lib.hid hbel
    clear hrow hbel c0 c1 c2 c3 c4 c5 c6 c7
    by_cases hlt : k < 64
    · have ck := (HK.out.keep HBe.out) k hlt
      have cw := HRo.out.cell (i := k) (by rw [sched_len]; omega)
      have HS := Kp.mk (rnds_succ s (sched l 48) k)
      rw [← HT.out] at HS
      generalize kon.getD k 0 = kk at *
      generalize (sched l 48).getD k 0 = ww at *
      have k64 : (k : Int) < 64 := by omega
      go_wp2_with fail
      refine (rotl _ 6 (-6) _ (by decide) (by decide) (by decide)).mono ?_
      rintro r w3 ⟨rfl, rfl⟩
      go_wp2_with fail
      refine (rotl _ 11 (-11) _ (by decide) (by decide) (by decide)).mono ?_
      rintro r w3 ⟨rfl, rfl⟩
      go_wp2_with fail
      refine (rotl _ 25 (-25) _ (by decide) (by decide) (by decide)).mono ?_
      rintro r w3 ⟨rfl, rfl⟩
      go_wp2_with fail
      go_quiet (fail)
      generalize hT1 : ((_ + ww) % 4294967296 : Int) = T1
      have HT1 := Kp.mk hT1
      have HK3 := Lib.hid HRo.out
      have HB5 := Lib.hid HBe.out
      clear hT1 ck cw
      have HR5 := Lib.hid (HRo.out.drewN nq)
      have HB6 := Lib.hid (below_drewN HBe.out nq)
      clear HRo HBe HK3 HB5
      generalize wr.drewN nq = w3 at *
      generalize hI : bits .xor .u32 (if IntKind.u32.signed = true then -1 else IntKind.u32.max) te = ie
      generalize hG : bits .xor .u32 (bits .xor .u32 (rot te 6) (rot te 11)) (rot te 25) = g1
      generalize hA : bits .and .u32 ie tg = y1
      generalize hA2 : bits .and .u32 te tf = y2
      generalize hA3 : bits .xor .u32 y2 y1 = y3
      generalize ((_ + y3) % 4294967296 : Int) = y4
      generalize ((_ + g1) % 4294967296 : Int) = y5
      generalize ((_ + kk) % 4294967296 : Int) = y6
      clear hI hG hA hA2 hA3
      go_wp2_with fail
      refine (rotl _ 2 (-2) _ (by decide) (by decide) (by decide)).mono ?_
      rintro r w4 ⟨rfl, rfl⟩
      go_wp2_with fail
      refine (rotl _ 13 (-13) _ (by decide) (by decide) (by decide)).mono ?_
      rintro r w4 ⟨rfl, rfl⟩
      go_wp2_with fail
      refine (rotl _ 22 (-22) _ (by decide) (by decide) (by decide)).mono ?_
      rintro r w4 ⟨rfl, rfl⟩
      go_wp2_with fail
      go_roundw
      case rel =>
        refine ⟨k + 1, _, _, _, _, _, _, _, _, by omega, by go_num, ?_, rfl, rfl, rfl, rfl, rfl, rfl, rfl, rfl, HR5.out, HB6.out⟩
        have h1 := step1_eq ⟨ta, tb, tc, td, te, tf, tg, th⟩ kk ww T1 HT1.out
        have h2 := round_a ⟨ta, tb, tc, td, te, tf, tg, th⟩ kk ww
        have h3 := round_e ⟨ta, tb, tc, td, te, tf, tg, th⟩ kk ww
        rw [← h1] at h2 h3
        refine ⟨Eq.trans ?_ HS.out.symm⟩
        rw [← h2, ← h3]
        rfl
      case measure => simp [intOf]; omega
    · have HK64 : Hid (k = 64) := by show _ = _; omega
      have HT2 : Kp (St.mk ta tb tc td te tf tg th = rnds s (sched l 48) 64) := by
        have h := HT.out
        rw [HK64.out] at h
        exact ⟨h⟩
      have hge : 64 ≤ (k : Int) := by omega
      have HTu := Lib.hid (Turn.of HB.out HBe.out)
      clear hlt hk HT HRo
      go_wp2_with fail
      clear hge
      go_loopw [135] (fun c wr => ∃ j : Nat, j ≤ 8 ∧ c = .int .i64 j ∧ Turn b (hashObj (mix s (s.add ⟨ta, tb, tc, td, te, tf, tg, th⟩) j) rest n) w wr) (fun c _ => 8 - (intOf c).toNat)
      case atStart => exact ⟨0, by omega, rfl, by rw [mix_zero]; exact HTu.out⟩
      case round =>
        obtain ⟨j, hj, rfl, htu⟩ := hrel
        have HTv := Lib.hid htu
        clear htu HTu HBe
        by_cases hlt : j < 8
        · have hidx := index68 ⟨ta, tb, tc, td, te, tf, tg, th⟩ j hlt
          have cs : wr.cell? ⟨b, j, none⟩ = some (.int .u32 (s.list.getD j 0)) := by
            rw [HTv.out.blk.cell, hash_state (by rw [mix_len _ _ _ hj]; exact hlt), mix_get _ _ _ hlt]
          have HA := Kp.mk (add_get s ⟨ta, tb, tc, td, te, tf, tg, th⟩ j hlt)
          have HJ := Lib.hid hlt
          generalize s.list.getD j 0 = y0 at *
          generalize (St.mk ta tb tc td te tf tg th).list.getD j 0 = y1 at *
          go_wp2_with fail
          clear hidx
          have j8 : (j : Int) < 8 := by omega
          go_still_tail 11, (by kernel_rfl)
          clear cs
          refine wpl_world (fun w2 => Turn b (hashObj (mix s (s.add ⟨ta, tb, tc, td, te, tf, tg, th⟩) j) rest n) w w2) HTv.out.drew ?_
          intro w2 htv2
          have HT2 := Lib.hid htv2
          have fw := htv2.blk.frozen j
          have cw : w2.cell? ⟨b, j, none⟩ = some (.int .u32 ((mix s (s.add ⟨ta, tb, tc, td, te, tf, tg, th⟩) j).getD j 0)) := by
            rw [htv2.blk.cell, hash_state (by rw [mix_len _ _ _ hj]; exact hlt)]
          clear htv2
          go_wp2_with fail
          go_roundw
          case rel =>
            refine ⟨j + 1, by omega, by go_num, ?_⟩
            refine (HT2.out.set j _).as ?_
            show Obj.cells _ 164 (0, 0) = Obj.cells _ 164 (0, 0)
            rw [hash_set (by rw [mix_len _ _ _ hj]; exact hlt), mix_set _ _ _ hlt _ HA.out.symm]
          case measure => simp [intOf]; omega
        · have HJ : Hid (j = 8) := by show _ = _; omega
          have hge : 8 ≤ (j : Int) := by omega
          clear hlt hj
          go_wp2_with fail
          go_end0
          refine ⟨rfl, ?_⟩
          have h := HTv.out
          rw [HJ.out, mix_full, HT2.out] at h
          exact h
end Go.Proofs.YtibbinenhmiclaaDoor

namespace Go.Proofs.YtibbinenhmiclaaDoor
open Go.RowKit

/-- What slice v shows lies in a block of S. -/
def Blo (S : Nat → Prop) (v : Value) : Prop := ∀ x n cap, v = .slice (some x) n cap → 0 < n → S x.block
theorem add_block (x : Addr) (n : Nat) : (x.add n).block = x.block := by unfold Addr.add; split <;> rfl
theorem Blo.cut {S : Nat → Prop} {a : Option Addr} {n i j m cap : Nat} (h : Blo S (.slice a n cap)) (hj : j ≤ n) : Blo S (sliced a i j m 1) := by
  intro x k c he h0
  unfold sliced at he
  simp only [Value.slice.injEq] at he
  obtain ⟨h1, h2, h3⟩ := he
  split at h1
  · subst h1
    exact h x n cap rfl (by omega)
  · cases a with
    | none => simp at h1
    | some y =>
      simp only [Option.map_some, Option.some.injEq] at h1
      subst h1
      rw [add_block]
      exact h y n cap rfl (by omega)
/-- v shows the bytes l, outside of block b. -/
structure HoldsX (w : World) (b : Nat) (v : Value) (l : List Int) : Prop where
  h : HoldsB w w.heap.size v l
  x : Blo (· ≠ b) v
theorem HoldsX.keep {w w' : World} {b : Nat} {v : Value} {l : List Int} (h : HoldsX w b v l) (hb : Below w.heap.size w w') : HoldsX w' b v l := ⟨(h.h.keep hb).mono hb.size, h.x⟩
theorem HoldsX.turn {w w' : World} {b : Nat} {o : Obj} {v : Value} {l : List Int} (h : HoldsX w b v l) (hb : Turn b o w w') : HoldsX w' b v l := by
  refine ⟨?_, h.x⟩
  have hx := h.x
  obtain ⟨a, cap, h1, h2, h3, h4, h5, h6, h7⟩ := h.h
  subst h1
  have hs := hb.size
  refine ⟨a, cap, rfl, h2, h3, h4, fun x hxx h0 => ⟨(h5 x hxx h0).1, by have := (h5 x hxx h0).2.2; omega, by have := (h5 x hxx h0).2.2; omega⟩, fun x i hxx hi => ?_, h7⟩
  subst hxx
  exact (World.cell?_of_block (w := w) (a := ⟨x.block, x.off + i, none⟩) (hb.other _ (h5 x rfl (by omega)).2.2 (hx x _ _ rfl (by omega)))).trans (h6 x i rfl hi)
theorem HoldsX.slice {w : World} {b : Nat} {v : Value} {l : List Int} (h : HoldsX w b v l) : ∃ a n cap, v = .slice a n cap ∧ n = l.length := h.h.slice
set_option maxRecDepth 100000 in
theorem HoldsX.front {w : World} {b : Nat} {v : Value} {l : List Int} (h : HoldsX w b v l) {k : Nat} (hk : k ≤ l.length) :
    ∃ v', (∀ w1, (Instr.sliceAt 131 v none (some (.int .i64 k)) none).run Tryd.prog w1 = .ok v' w1) ∧ HoldsX w b v' (l.take k) := by
  obtain ⟨a, n, cap, rfl, hn⟩ := h.slice
  obtain ⟨v', h1, h2⟩ := h.h.front hk
  refine ⟨v', h1, h2, ?_⟩
  have hc : n ≤ cap := by
    obtain ⟨a', cap', e, hc, _⟩ := h.h
    simp only [Value.slice.injEq] at e
    omega
  have h3 := h1 w
  rw [run_sliceAt_slice (h := Tryd.underlying131), run_slice_h (ht := Tryd.underlying131) (h0 := by omega) (h2 := by omega), elem22, size5] at h3
  simp [Result.andThen] at h3
  rw [← h3]
  exact Blo.cut h.x (by omega)
set_option maxRecDepth 100000 in
theorem HoldsX.back {w : World} {b : Nat} {v : Value} {l : List Int} (h : HoldsX w b v l) {k : Nat} (hk : k ≤ l.length) :
    ∃ v', (∀ w1, (Instr.sliceAt 131 v (some (.int .i64 k)) none none).run Tryd.prog w1 = .ok v' w1) ∧ HoldsX w b v' (l.drop k) := by
  obtain ⟨a, n, cap, rfl, hn⟩ := h.slice
  obtain ⟨v', h1, h2⟩ := h.h.back hk
  refine ⟨v', h1, h2, ?_⟩
  have h3 := h1 w
  rw [run_sliceAt_slice (h := Tryd.underlying131), run_slice_l (ht := Tryd.underlying131) (h0 := by omega) (h1 := by omega), elem22, size5] at h3
  simp [Result.andThen] at h3
  rw [← h3]
  exact Blo.cut h.x (by omega)
theorem Turn.row {b : Nat} {cs : Array Value} {t : TypeId} {fr : Nat × Nat} {w w' : World} (h : Turn b (.cells cs t fr) w w') (cs' : Array Value) : Turn b (.cells cs' t fr) w (w'.setRow b cs') :=
  ⟨h.os, h.tape, h.output, by simpa [World.setRow] using h.size, h.blk.setRow cs', fun k hk hne => by rw [setRow_other w' b k cs' hne]; exact h.other k hk hne⟩
/-- copy into a block that was there. -/
theorem wpList_copy_turn {P : Program} {w : World} {ops : Array Oper} {rest : List Oper} {o : Oper} {a : Act} {Q : Exit → Act → World → Prop} (hgd : o.guard = none) (d s : Operand) (dT sT : TypeId)
    (ho : o.op = .call { callee := .builtin .copy, args := #[d, s], argTypes := #[dT, sT] }) (elem : TypeId) (hu : P.underlying dT = some (.slice elem)) (hsz : (P.info? elem).map (·.size) = some 1)
    (dp sp : Option Addr) (dLen dCap sLen sCap : Nat) (hd : a.eval d = .slice dp dLen dCap) (hs : a.eval s = .slice sp sLen sCap)
    (g off : Nat) (cur : List Value) (t : TypeId) (w0 : World) (hT : Turn g (.cells cur.toArray t) w0 w) (cs : List Value) (hn : cs.length = Nat.min sLen dLen)
    (hpos : 0 < cs.length → dp = some ⟨g, off, none⟩ ∧ ∃ ad, sp = some ad ∧ ∀ j v, cs[j]? = some v → w.cell? (ad.add j) = some v)
    (hfit : off + cs.length ≤ cur.length) (h1 : ∀ v ∈ cs, v.oneCell' = true)
    (h : ∀ w', Hid (Turn g (.cells (splice cur off cs).toArray t) w0 w') → wpList P ops Q rest (a.put o.dst (goInt cs.length)) w') :
    wpList P ops Q (o :: rest) a w := by
  by_cases h0 : cs.length = 0
  · obtain rfl : cs = [] := List.eq_nil_of_length_eq_zero h0
    refine wpList_copy_nothing hgd d s dT sT ho elem hu hsz dp sp dLen dCap sLen sCap hd hs (by simpa using hn.symm) ?_
    exact h w (show Turn _ _ _ _ by simpa [splice] using hT)
  · obtain ⟨rfl, ad, rfl, hsrc⟩ := hpos (by omega)
    refine wpList_copy_own hgd d s dT sT ho elem hu hsz g off dLen dCap ad sLen sCap hd hs cur.toArray t hT.blk cs hn hsrc (by simpa using hfit) h1 ?_
    exact h _ (show Turn _ _ _ _ by simpa [splice] using hT.row _)
theorem splice_rest {sl rest cs : List Int} {n : Int} {off : Nat} (hs : sl.length = 8) (h : off + cs.length ≤ rest.length) : splice (hashCells sl rest n) (8 + off) (kv .u8 cs) = hashCells sl (splice rest off cs) n := by
  unfold splice hashCells
  rw [List.take_append, List.drop_append]
  have e1 : (kv .u32 sl).length = 8 := by simp [hs]
  rw [e1, List.take_of_length_le (by simp; omega), List.drop_eq_nil_of_le (by simp; omega)]
  rw [show 8 + off - 8 = off by omega, show 8 + off + (kv .u8 cs).length - 8 = off + cs.length by simp; omega]
  rw [List.take_append_of_le_length (by simp; omega), List.drop_append_of_le_length (by simp; omega)]
  simp [List.map_take, List.map_drop]
theorem splice_len {l cs : List Int} {off : Nat} (h : off + cs.length ≤ l.length) : (splice l off cs).length = l.length := length_splice l off cs h
theorem splice_bytes {l cs : List Int} {off : Nat} (h : Bytes l) (h2 : Bytes cs) : Bytes (splice l off cs) := (h.take _).append (h2.append (h.drop _))
theorem splice_take {l cs : List Int} {off : Nat} (h : off ≤ l.length) : (splice l off cs).take (off + cs.length) = l.take off ++ cs := by
  unfold splice
  rw [← List.append_assoc, List.take_append_of_le_length (by simp; omega), List.take_of_length_le (by simp; omega)]
/-- Block b is a sum under way that took l in. -/
def HashIs (w : World) (b : Nat) (l : List Int) : Prop :=
  ∃ rest, rest.length = 64 ∧ Bytes rest ∧ rest.take (l.length % 64) = l.drop (64 * (l.length / 64)) ∧ Blk w b (hashObj (absorb l (l.length / 64)).list rest l.length)
/-- Block b has become a sum under way that took l in; all else is as it was. -/
def HashTurn (b : Nat) (l : List Int) (w w' : World) : Prop :=
  ∃ rest, rest.length = 64 ∧ Bytes rest ∧ rest.take (l.length % 64) = l.drop (64 * (l.length / 64)) ∧ Turn b (hashObj (absorb l (l.length / 64)).list rest l.length) w w'
theorem HashTurn.is {b : Nat} {l : List Int} {w w' : World} (h : HashTurn b l w w') : HashIs w' b l := by
  obtain ⟨rest, h1, h2, h3, h4⟩ := h
  exact ⟨rest, h1, h2, h3, h4.blk⟩
theorem HashIs.keep {w w' : World} {b : Nat} {l : List Int} (h : HashIs w b l) (hb : Below w.heap.size w w') : HashIs w' b l := by
  obtain ⟨rest, h1, h2, h3, h4⟩ := h
  exact ⟨rest, h1, h2, h3, h4.keep hb⟩
theorem HashIs.lt {w : World} {b : Nat} {l : List Int} (h : HashIs w b l) : b < w.heap.size := by
  obtain ⟨rest, h1, h2, h3, h4⟩ := h
  exact h4.lt
set_option maxRecDepth 100000 in
theorem slice75 (b k : Nat) (h : k < 64) (w : World) : (Instr.sliceAt 155 (.pointer (some ⟨b, 8, none⟩)) (some (.int .i64 k)) none none).run Tryd.prog w = .ok (.slice (some ⟨b, 8 + k, none⟩) (64 - k) (64 - k)) w := by
  have hl : Tryd.prog.arrayLen 155 = 64 := by kernel_rfl
  have he : Tryd.prog.elem 155 = 5 := by kernel_rfl
  rw [run_sliceAt_array_l (ht := Tryd.underlying155) (h0 := by omega) (h1 := by rw [hl]; omega), hl, he, size5]
  simp only [Result.andThen, slicedAt, Int.toNat_natCast, Nat.mul_one]
  rw [if_neg (by omega)]
  have e : (⟨b, 8, none⟩ : Addr).add k = ⟨b, 8 + k, none⟩ := by unfold Addr.add; split <;> simp_all
  rw [e]
set_option maxRecDepth 100000 in
theorem slice75_all (b : Nat) (w : World) : (Instr.sliceAt 155 (.pointer (some ⟨b, 8, none⟩)) none none none).run Tryd.prog w = .ok (.slice (some ⟨b, 8, none⟩) 64 64) w := by
  have hl : Tryd.prog.arrayLen 155 = 64 := by kernel_rfl
  have he : Tryd.prog.elem 155 = 5 := by kernel_rfl
  rw [run_sliceAt_array_all (ht := Tryd.underlying155), hl, he, size5]
  rfl
end Go.Proofs.YtibbinenhmiclaaDoor

namespace Go.Proofs.YtibbinenhmiclaaDoor
open Go.RowKit

theorem new_cells : ((((((((Tryd.zeroCells164.setIfInBounds 0 (Value.int IntKind.u32 1779033703)).setIfInBounds 1 (Value.int IntKind.u32 3144134277)).setIfInBounds 2 (Value.int IntKind.u32 1013904242)).setIfInBounds
    3 (Value.int IntKind.u32 2773480762)).setIfInBounds 4 (Value.int IntKind.u32 1359893119)).setIfInBounds 5 (Value.int IntKind.u32 2600822924)).setIfInBounds 6 (Value.int IntKind.u32 528734635)).setIfInBounds 7 (Value.int IntKind.u32 1541459225)) =
    (hashCells first.list (List.replicate 64 0) 0).toArray := by kernel_rfl
theorem zeros_bytes (n : Nat) : Bytes (List.replicate n 0) := fun x hx => by
  have := List.eq_of_mem_replicate hx
  omega
set_option maxRecDepth 100000 in
set_option maxHeartbeats 400000 in
theorem new_any (w : World) : Calls Tryd.prog 89 #[] w fun r w' => r = .returned (.pointer (some ⟨w.heap.size, 0, none⟩)) ∧ HashIs w' w.heap.size [] ∧ Below w.heap.size w w' := by
  go_enter Tryd.func89, Tryd.ntmps89
  go_wp2_with fail
  go_ret
  rw [new_cells]
  exact ⟨rfl, ⟨List.replicate 64 0, by simp, zeros_bytes _, rfl, Blk.new _ _⟩, more (Below.refl _ _) _⟩
end Go.Proofs.YtibbinenhmiclaaDoor
