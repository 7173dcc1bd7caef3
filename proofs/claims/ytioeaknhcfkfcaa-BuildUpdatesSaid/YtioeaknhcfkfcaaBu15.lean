/-
  The document's PutUpdate.
-/
import Derived.Test.YtioeaknhcfkfcaaBu14
namespace Go.Proofs.Ytioeaknhcfkfcaa
open Go.RowKit

theorem Typed.nil (w : World) : Typed w (.slice none 0 0) := fun k hk => by cases hk
theorem HoldsT.nil (w : World) : HoldsT w (.slice none 0 0) [] := ⟨HoldsB.nil _ _, Typed.nil _⟩
theorem HoldsT.made {w w' : World} {v0 v : Value} {l : List Int} (h0 : Typed w v0) (h : HoldsB w' w'.heap.size v l) (hk : v = v0 ∨ w'.ownsRow w.heap.size 5 1 v l.length (bv l)) (hb : Below w.heap.size w w') : HoldsT w' v l := ⟨h, newK h0 hk hb⟩
theorem info122s : (Try.prog.info? 112).map (·.size) = some 2 := by kernel_rfl
theorem two_one (a : Option Addr) (n c : Nat) (b : Bool) : (#[Value.slice a n c, .bool b] : Array Value).all (·.oneCell') = true := by simp [Value.oneCell']
theorem HoldsB.leaf {w : World} {T o : Nat} {t : TypeId} {cs : Array Value} {lf : List Int} (h : Blk w T (.cells cs t)) (hl : lf.length = 16) (hb : Bytes lf) (hc : ∀ j u, (bv lf)[j]? = some u → cs[o + j]? = some u) :
    HoldsB w w.heap.size (.slice (some ⟨T, o, none⟩) 16 16) lf := by
  refine ⟨some ⟨T, o, none⟩, 16, by rw [hl], by omega, by decide, (fun e => by cases e), fun x hx _ => ?_, fun x i hx hi => ?_, hb⟩
  · cases hx
    exact ⟨rfl, h.lt, h.lt⟩
  · cases hx
    show w.cell? ⟨T, o + i, none⟩ = _
    rw [h.cell (o + i)]
    refine hc i _ ?_
    rw [List.getElem?_map, List.getElem?_eq_getElem hi]
    simp [List.getD_eq_getElem?_getD, List.getElem?_eq_getElem hi]
theorem ec_leaf (x : EV) : ∀ j u, (bv x.lf)[j]? = some u → (ec x).toArray[4 + j]? = some u := fun j u hu => by
  have hj := (List.getElem?_eq_some_iff.1 hu).1
  rw [List.getElem?_toArray]
  unfold ec
  rw [List.append_assoc, List.getElem?_append_right (by simp)]
  simp only [List.length_cons, List.length_nil, Nat.add_sub_cancel_left]
  rw [List.getElem?_append_left hj]
  exact hu
/-- The document's PutUpdate, on its way. -/
structure RP (w : World) (F O : Nat) (u : Bool) (a : Option Addr) (n c : Nat) (f : Nat → E3) (v : Value) (L : List Int) (W : World) : Prop where
  b : Blk W F (.cells #[.bool u, .slice a n c] 49)
  o : Blk W O (.cells #[v, .bool false] 112)
  h : HoldsT W v L
  e : HoldsW W F a n f
  below : Below F w W
  fo : F < O
theorem RP.more {w W W' : World} {F O n c : Nat} {u : Bool} {a : Option Addr} {f : Nat → E3} {v : Value} {L : List Int} (h : RP w F O u a n c f v L W) (hb : Below W.heap.size W W') : RP w F O u a n c f v L W' :=
  ⟨h.b.keep hb, h.o.keep hb, h.h.grow hb, h.e.keep hb, h.below.trans (hb.mono (Nat.le_of_lt h.b.lt)), h.fo⟩
theorem RP.put {w W : World} {F O n c : Nat} {u : Bool} {a : Option Addr} {f : Nat → E3} {v v' : Value} {L L' : List Int} (h : RP w F O u a n c f v L W) (h2 : HoldsT W v' L') : RP w F O u a n c f v' L' (W.setRow O #[v', .bool false]) := by
  have hfo := h.fo
  have hl := h.b.lt
  obtain ⟨va, vn, vc, hv, -⟩ := h.h.1.slice
  have hT := Turn.ofRow h.o #[v', .bool false]
  have hb : Below O W (W.setRow O #[v', .bool false]) := hT.below (Nat.le_refl _) (by have := h.o.lt; omega)
  refine ⟨hT.keep h.b (by omega), hT.blk, ?_, h.e.upto hb (by omega), h.below.trans (hb.mono (by omega)), h.fo⟩
  have h3 := HoldsB.boxed h2.1 h.o (by intro m e; rw [hv] at e; cases e) #[v', .bool false]
  refine ⟨h3.mono (by simp [World.setRow]), fun k hk => ?_⟩
  obtain ⟨cur, hc⟩ := h2.2 k hk
  have hne : k ≠ O := fun e => by
    subst e
    have h8 : W.heap[k]? = some (.cells #[v, .bool false] 112 (0, 0)) := h.o
    rw [h8] at hc
    simp at hc
  exact ⟨cur, (hT.other k (Array.getElem?_eq_some_iff.1 hc).1 hne).trans hc⟩
theorem RP.at_ {w W : World} {F O n c : Nat} {u : Bool} {a : Option Addr} {f : Nat → E3} {v : Value} {L : List Int} (h : RP w F O u a n c f v L W) : W.cell? ⟨F, 0, none⟩ = some (.bool u) ∧ W.cell? ⟨F, 1, none⟩ = some (.slice a n c) := ⟨h.b.cell 0, h.b.cell 1⟩
theorem rnum_ok {l : List Int} {n : Int} {k : Nat} (h : n < 256 ^ k) : (if 256 ^ k ≤ n then l else l ++ digs n k) = l ++ digs n k ∧ numF false n k = false := ⟨if_neg (by omega), by unfold numF; simp; omega⟩
theorem rsums_ok' {l S : List Int} {n : Nat} (h : n < 256) : rsumsL l S n = l ++ digs n 1 ++ S ∧ numF false n 1 = false := by
  have := @rnum_ok l (n : Int) 1 (by omega)
  unfold rsumsL
  exact ⟨by rw [this.1], this.2⟩
theorem EV.ok_ofw {w : World} {M n i : Nat} {a : Option Addr} {f : Nat → E3} {z : E3} {last : Int} (h : HoldsW w M a n f) (hi : i < n) (hf : folB last z.1 = true) (hz : z = f i) : z.1.Ok := by
  subst hz
  have h := h.e i hi
  unfold folB krB at hf
  simp only [Bool.and_eq_true, decide_eq_true_eq] at hf
  obtain ⟨⟨h1, h2⟩, ⟨h3, h4, h5, h6⟩, h7, h8⟩ := hf
  exact ⟨h1, ⟨h.e.1, h3⟩, ⟨h.s.1, h4⟩, ⟨h5, h6⟩, h7, h8, h.l, h.b⟩
theorem entB_lenw {w : World} {M : Nat} {z : E3} {last : Int} (h : EIw w M z) (hf : folB last z.1 = true) : (entB z.1 z.2.1 z.2.2).length ≤ 200 := by
  unfold folB at hf
  simp only [Bool.and_eq_true, decide_eq_true_eq] at hf
  obtain ⟨_, _, h1, h2⟩ := hf
  obtain ⟨_, _, _, e2, _⟩ := h.hw
  obtain ⟨_, _, _, e3, _⟩ := h.hp
  have h3 := h.l
  unfold entB
  simp only [List.length_append, digs_len, h3, e2, e3]
  omega
def RUPost (u : Bool) (f : Nat → E3) (n : Nat) (w : World) (r : Ending) (w' : World) : Prop :=
  ∃ v, r = .returned (.tuple #[v, .int .i64 (updE f n)]) ∧ HoldsT w' v (updX u f n) ∧ Below w.heap.size w w'
set_option maxRecDepth 100000 in
set_option maxHeartbeats 64000000 in
theorem rputUpdate_any (u : Bool) (a : Option Addr) (n c : Nat) (f : Nat → E3) (w : World) (h : HoldsW w w.heap.size a n f) (hn : n ≤ 30) :
    Calls Try.prog 23 #[.agg #[.bool u, .slice a n c]] w (RUPost u f n w) := by
  obtain ⟨F, hF⟩ : ∃ F, F = w.heap.size := ⟨_, rfl⟩
  have HFe := Kp.mk hF
  have HH : Kp (HoldsW w F a n f) := ⟨by rw [hF]; exact h⟩
  have hmax : n ≤ 9223372036854775807 := by omega
  have HE1 : Kp (updE f n = if 8 < n then 8 else if updOk f n = true then 0 else 1) := ⟨rfl⟩
  have HX1 : Kp (updX u f n = if updE f n = 0 then updB u f n else []) := ⟨rfl⟩
  clear h
  by_cases h8 : 8 < n
  · have h8' : (8 : Int) < n := by omega
    have PE : Kp (updE f n = 8) := ⟨by rw [HE1.out, if_pos h8]⟩
    have PX : Kp (updX u f n = []) := ⟨by rw [HX1.out, PE.out]; rfl⟩
    clear hF
    go_enter Try.func23, Try.ntmps23
    go_wp2_with fail
    exact bodyPost_ret (results_tmp2U rfl _ _ _ _) rfl ⟨.slice none 0 0, by rw [PE.out]; rfl, by rw [PX.out]; exact HoldsT.nil _, more (Below.refl _ _) _⟩
  · have h8' : ¬ (8 : Int) < n := by omega
    have HN8 : Kp (n ≤ 8) := ⟨by omega⟩
    have HE2 : Kp (updE f n = if updOk f n = true then 0 else 1) := ⟨by rw [HE1.out, if_neg h8]⟩
    have hw1 : IntKind.u64.wrap (n : Int) = n := u64_wrap (by omega)
    have B0 : Kp (Blk (w.alloc (.cells #[.bool u, .slice a n c] 49)) F (.cells #[.bool u, .slice a n c] 49) ∧ HoldsW (w.alloc (.cells #[.bool u, .slice a n c] 49)) F a n f ∧ Below F w (w.alloc (.cells #[.bool u, .slice a n c] 49))) := ⟨Blk.newAt _ hF, HH.out.keep (more (Below.refl _ _) _), by rw [hF]; exact more (Below.refl _ _) _⟩
    have N0 := @rnum_ok ([] : List Int) 0 1 (by decide)
    have N1 := @rnum_ok ([] : List Int) 1 1 (by decide)
    clear HE1 h8
    go_enter Try.func23, Try.ntmps23
    go_wp2_with fail
    rw [← hF]
    clear hF HH
    generalize w.alloc (.cells #[.bool u, .slice a n c] 49) = W0 at *
    refine (rnum_any W0.heap.size (.slice none 0 0) [] false 0 1 W0 (HoldsB.nil _ _) (Nat.le_refl _) (by decide) (by decide) (by decide) (by decide)).mono ?_
    rintro r w2 ⟨v2, rfl, h2', hk9, hb⟩
    have h2 := HoldsT.made (Typed.nil W0) h2' hk9 hb
    clear h2' hk9
    rw [N0.1] at h2
    rw [N0.2]
    have B2 : Kp (Blk w2 F (.cells #[.bool u, .slice a n c] 49) ∧ HoldsW w2 F a n f ∧ Below F w w2 ∧ HoldsT w2 v2 (digs 0 1)) := ⟨B0.out.1.keep hb, B0.out.2.1.keep hb, B0.out.2.2.trans (hb.mono (Nat.le_of_lt B0.out.1.lt)), h2⟩
    clear hb h2 B0
    obtain ⟨p2, q2, r2, rfl, -⟩ := B2.out.2.2.2.1.slice
    obtain ⟨O, hO⟩ : ∃ O, O = w2.heap.size := ⟨_, rfl⟩
    have HOe := Kp.mk hO
    clear hO N0
    by_cases hu : u = true
    case' neg =>
      have huf : u = false := by simpa using hu
      clear N1 hu
      go_wp2_with (first
        | (refine wpList_store_row rfl 112 (.tmp 4) (.tmp 12) rfl w2.heap.size #[.slice p2 q2 r2, .bool false] rfl rfl 112 _ (Blk.newAt _ rfl) info122s rfl (two_one _ _ _ _) ?_; rw [World.setRow_alloc_new, ← HOe.out]; refine wpl_world (fun W => RP w F O u a n c f (.slice p2 q2 r2) (digs (fullN u) 1) W) ⟨B2.out.1.old _, Blk.newAt _ HOe.out, by rw [huf]; exact B2.out.2.2.2.grow (more (Below.refl _ _) _), B2.out.2.1.keep (more (Below.refl _ _) _), B2.out.2.2.1.alloc (Nat.le_of_lt B2.out.1.lt) _, by rw [HOe.out]; exact B2.out.1.lt⟩ ?_; rintro W4 h4; have S4 := Kp.mk h4; have y0 : W4.cell? ⟨F, 0, none⟩ = some (.bool false) := by rw [h4.at_.1, huf]
           have y1 := h4.at_.2; clear h4)
        | (refine wpList_load_row rfl 112 (.tmp 4) rfl O rfl 112 #[.slice p2 q2 r2, .bool false] (0, 0) _ S4.out.o Try.underlying112 rfl info122s ?_))
      have hrow : ∃ p4 q4 r4, (Value.slice p2 q2 r2 = .slice p4 q4 r4) := ⟨_, _, _, rfl⟩
      obtain ⟨p4, q4, r4, hpq⟩ := hrow
      rw [hpq] at S4 ⊢
      clear hpq y0 y1 B2 huf
    case' pos =>
      go_wp2_with (refine wpList_store_row rfl 112 (.tmp 4) (.tmp 12) rfl w2.heap.size #[.slice p2 q2 r2, .bool false] rfl rfl 112 _ (Blk.newAt _ rfl) info122s rfl (two_one _ _ _ _) ?_; rw [World.setRow_alloc_new, ← HOe.out]; refine wpl_world (fun W => RP w F O u a n c f (.slice p2 q2 r2) (digs 0 1) W) ⟨B2.out.1.old _, Blk.newAt _ HOe.out, B2.out.2.2.2.grow (more (Below.refl _ _) _), B2.out.2.1.keep (more (Below.refl _ _) _), B2.out.2.2.1.alloc (Nat.le_of_lt B2.out.1.lt) _, by rw [HOe.out]; exact B2.out.1.lt⟩ ?_; rintro W3 h3; have S3 := Kp.mk h3; have y0 : W3.cell? ⟨F, 0, none⟩ = some (.bool true) := by rw [h3.at_.1, hu]
                   clear h3)
      refine (rnum_any W3.heap.size (.slice none 0 0) [] false 1 1 W3 (HoldsB.nil _ _) (Nat.le_refl _) (by decide) (by decide) (by decide) (by decide)).mono ?_
      rintro r w4 ⟨v4, rfl, h4', hk9, hb⟩
      have h4 := HoldsT.made (Typed.nil W3) h4' hk9 hb
      clear h4' hk9
      rw [N1.1] at h4
      rw [N1.2]
      have S3' := Kp.mk (S3.out.more hb)
      have B4 := Kp.mk h4
      clear hb h4 S3 y0 B2 N1
      obtain ⟨p4, q4, r4, rfl, -⟩ := B4.out.1.slice
      go_wp2_with (first
        | (refine wpList_store_row rfl 112 (.tmp 4) (.tmp 16) rfl O #[.slice p4 q4 r4, .bool false] rfl rfl 112 _ S3'.out.o info122s rfl (two_one _ _ _ _) ?_; refine wpl_world (fun W => RP w F O u a n c f (.slice p4 q4 r4) (digs (fullN u) 1) W) (by rw [hu]; rw [hu] at S3'; exact S3'.out.put B4.out) ?_; rintro W4 h5; have S4 := Kp.mk h5; have y1 := h5.at_.2; clear h5 S3' B4)
        | (refine wpList_load_row rfl 112 (.tmp 4) rfl O rfl 112 #[.slice p4 q4 r4, .bool false] (0, 0) _ S4.out.o Try.underlying112 rfl info122s ?_))
      clear y1 hu
    all_goals
      have hfu : 0 ≤ fullN u ∧ fullN u ≤ 1 := by unfold fullN; cases u <;> simp
      have HFN : Kp ((digs (fullN u) 1).length = 1) := ⟨digs_len _ _⟩
      obtain ⟨L1, hL1⟩ : ∃ L, L = digs (fullN u) 1 := ⟨_, rfl⟩
      rw [← hL1] at S4 HFN
      have N2 := @rnum_ok L1 (n : Int) 1 (by have := HN8.out; omega)
      refine (rnum_any W4.heap.size (.slice p4 q4 r4) L1 false n 1 W4 S4.out.h.1 (Nat.le_refl _) (by omega) (by omega) (by decide) (by have := HFN.out; omega)).mono ?_
      rintro r w5 ⟨v5, rfl, h5', hk9, hb⟩
      have h5 := HoldsT.made (S4.out.h.2) h5' hk9 hb
      clear h5' hk9
      rw [N2.1] at h5
      rw [N2.2]
      obtain ⟨LB, hLB⟩ : ∃ L, L = L1 ++ digs n 1 := ⟨_, rfl⟩
      have HLB : Kp (LB.length = 2 ∧ updB u f n = LB ++ entsB f n) := ⟨by rw [hLB, List.length_append, digs_len, HFN.out], by rw [hLB, hL1]; rfl⟩
      rw [← hLB] at h5
      have S5' := Kp.mk (S4.out.more hb)
      have B5 := Kp.mk h5
      clear hb h5 S4 N2 hLB hL1 HFN hfu
      obtain ⟨p5, q5, r5, rfl, -⟩ := B5.out.1.slice
      go_wp2_with (refine wpList_store_row rfl 112 (.tmp 4) (.tmp 22) rfl O #[.slice p5 q5 r5, .bool false] rfl rfl 112 _ S5'.out.o info122s rfl (two_one _ _ _ _) ?_; refine wpl_world (fun W => RP w F O u a n c f (.slice p5 q5 r5) LB W) (S5'.out.put B5.out) ?_; rintro W6 h6; have S6 := Kp.mk h6; clear h6 S5' B5)
      go_loopw [5] (fun ct wr => ∃ (i : Nat) (ov : Option Addr) (on oc : Nat), i ≤ n ∧ ct = .int .i64 i ∧ Kp (updOk f i = true ∧ (entsB f i).length ≤ 200 * i) ∧ Kp (RP w F O u a n c f (.slice ov on oc) (LB ++ entsB f i) wr)) (fun ct _ => n - (intOf ct).toNat)
      case atStart => exact ⟨0, p5, q5, r5, by omega, rfl, ⟨rfl, by simp [entsB]⟩, ⟨by simp only [entsB, List.range_zero, List.flatMap_nil, List.append_nil]; exact S6.out⟩⟩
      case round =>
        clear S6
        obtain ⟨i, ov, on, oc, hi, rfl, HOKI, HST⟩ := hrel
        have y1 := HST.out.at_.2
        by_cases hlt : i < n
        · obtain ⟨b, off, rfl, hbF, hbl, hrg⟩ := HST.out.e.c i hlt
          have HRG := Kp.mk hrg
          have HLTN := Kp.mk hlt
          have HSUC := Kp.mk (And.intro (updOk_succ f i) (entsB_succ f i))
          have HEI := Kp.mk (HST.out.e.e i hlt)
          obtain ⟨z, hz⟩ : ∃ z, z = f i := ⟨_, rfl⟩
          have HZ9 := Kp.mk hz
          rw [← hz] at HRG HSUC HEI
          have HLF : Kp (z.1.lf.length = 16 ∧ Bytes z.1.lf) := ⟨HEI.out.l, HEI.out.b⟩
          have HER : Kp ((0 ≤ z.1.e ∧ z.1.e ≤ 4294967295) ∧ (0 ≤ z.1.s ∧ z.1.s ≤ 4294967295)) := ⟨HEI.out.e, HEI.out.s⟩
          clear HEI
          have HIX := Kp.mk (info105s HLF.out.1)
          have HSZ : Kp ((ec z.1).toArray.size = 22) := ⟨by rw [List.size_toArray]; exact ec_len HLF.out.1⟩
          have HLEN22 : Kp ((Try.prog.info? 32).map (·.size) = some (ec z.1).length) := ⟨by have := HIX.out; simpa using this⟩
          have HKR := fun wx => rkright_any z.1.e z.1.s z.1.m wx
          obtain ⟨L, hL⟩ : ∃ L, L = LB ++ entsB f i := ⟨_, rfl⟩
          have HLE := Kp.mk hL
          have HLL : Kp (L.length ≤ 10000) := ⟨by rw [hL, List.length_append, HLB.out.1]; have := HOKI.out.2; have := HN8.out; omega⟩
          rw [← hL] at HST
          obtain ⟨T, hT⟩ : ∃ T, T = wr.heap.size := ⟨_, rfl⟩
          have HTe := Kp.mk hT
          have HOT : Kp (O < T) := ⟨by rw [hT]; exact HST.out.o.lt⟩
          clear hrg hz hbF hbl hL hT
          go_wp2_with (first
            | (refine wpList_load_mid rfl 32 (.tmp 33) rfl b (off + i * 22) rfl (ec z.1) _ HRG.out Try.underlying32 rfl HLEN22.out ?_)
            | (refine wpList_store_row rfl 32 (.tmp 6) (.tmp 34) rfl wr.heap.size (ec z.1).toArray rfl rfl 32 _ (Blk.newAt _ rfl) HIX.out (by rw [HSZ.out]; rfl) (ec_one z.1) ?_; rw [World.setRow_alloc_new, ← HTe.out]; refine wpl_world (fun W => RP w F O u (some ⟨b, off, none⟩) n c f (.slice ov on oc) L W ∧ Blk W T (.cells (ec z.1).toArray 32)) ⟨HST.out.more (more (Below.refl _ _) _), Blk.newAt _ HTe.out⟩ ?_; rintro wT h3; have G1 := Kp.mk h3; clear h3))
          clear y1 HST HRG
          rcases Nat.eq_zero_or_pos i with hi0 | hi0
          · have HLJ : Kp (lastD f i = -1) := ⟨by rw [hi0]; rfl⟩
            have b4 : decide (0 < (i : Int)) = false := by simp; omega
            by_cases c1 : z.1.d < 0
            · have HF : Kp (folB (lastD f i) z.1 = false) := ⟨by unfold folB; simp; intros; omega⟩
              have b1 : decide (z.1.d < 0) = true := by simp [c1]
              refine wp_region_flow (fun w' => RP w F O u (some ⟨b, off, none⟩) n c f (.slice ov on oc) L w' ∧ Blk w' T (.cells (ec z.1).toArray 32)) (by kernel_rfl) (by kernel_rfl) (by kernel_rfl)
                (fun w1 w2 h hb => ⟨h.1.more hb, h.2.keep hb⟩) (⟨G1.out.1.more (Below.refl _ _).drew, G1.out.2.keep (Below.refl _ _).drew⟩) ?_
              repeat (first
                | (apply Flow.idle
                   · rfl
                   try simp only [Act.put, List.setIfInBounds_toArray, List.set_cons_zero, List.set_cons_succ])
                | (apply Flow.value
                   · rfl
                   · (intro wx hS; exact exec_load_mid rfl rfl (ec_key (ec_range hS.2)) Try.underlying26 rfl (by kernel_rfl))
                   try simp only [Act.put, List.setIfInBounds_toArray, List.set_cons_zero, List.set_cons_succ])
                | (apply Flow.call
                   · rfl
                   · intro wx hS; go_simp; constructor <;> with_reducible rfl
                   · intro wx hS; exact HKR wx
                   try simp only [Act.put, List.setIfInBounds_toArray, List.set_cons_zero, List.set_cons_succ])
                | (apply Flow.value
                   · rfl
                   · (intro wx hS
                      have x0 : wx.cell? ⟨T, 0, none⟩ = some (.int .i64 z.1.d) := (hS.2.cell 0).trans (by rw [List.getElem?_toArray]; exact ec_0 _)
                      have x20 : wx.cell? ⟨T, 20, none⟩ = some (.slice z.1.wa z.1.wn z.1.wc) := (hS.2.cell 20).trans (by rw [List.getElem?_toArray]; exact ec_20 HLF.out.1)
                      have x21 : wx.cell? ⟨T, 21, none⟩ = some (.slice z.1.pa z.1.pn z.1.pc) := (hS.2.cell 21).trans (by rw [List.getElem?_toArray]; exact ec_21 HLF.out.1)
                      have y1 := hS.1.at_.2
                      clear hS
                      go_simp; with_reducible rfl)
                   try simp only [Act.put, List.setIfInBounds_toArray, List.set_cons_zero, List.set_cons_succ]))
              refine Flow.done ?_
              intro wq hS
              have G1' := Kp.mk (And.intro hS.1 hS.2)
              clear hS
              have PO : Kp (updOk f n = false) := ⟨by
                cases ho : updOk f n with
                | false => rfl
                | true =>
                  have h9 := updOk_le (i := i + 1) ho (by omega)
                  rw [HSUC.out.1, HF.out] at h9
                  simp at h9⟩
              have PE : Kp (updE f n = 1) := ⟨by rw [HE2.out, PO.out]; rfl⟩
              have PX : Kp (updX u f n = []) := ⟨by rw [HX1.out, PE.out]; rfl⟩
              go_wp2_with fail
              exact bodyPost_ret (results_tmp2U rfl _ _ _ _) rfl ⟨.slice none 0 0, by rw [PE.out]; rfl, by rw [PX.out]; exact HoldsT.nil _, by rw [← HFe.out]; exact G1'.out.1.below⟩
            · have b1 : decide (z.1.d < 0) = false := by simp; omega
              by_cases c2 : 8 ≤ z.1.d
              · have HF : Kp (folB (lastD f i) z.1 = false) := ⟨by unfold folB; simp; intros; omega⟩
                have b2 : decide (8 ≤ z.1.d) = true := by simp [c2]
                refine wp_region_flow (fun w' => RP w F O u (some ⟨b, off, none⟩) n c f (.slice ov on oc) L w' ∧ Blk w' T (.cells (ec z.1).toArray 32)) (by kernel_rfl) (by kernel_rfl) (by kernel_rfl)
                  (fun w1 w2 h hb => ⟨h.1.more hb, h.2.keep hb⟩) (⟨G1.out.1.more (Below.refl _ _).drew, G1.out.2.keep (Below.refl _ _).drew⟩) ?_
                repeat (first
                  | (apply Flow.idle
                     · rfl
                     try simp only [Act.put, List.setIfInBounds_toArray, List.set_cons_zero, List.set_cons_succ])
                  | (apply Flow.value
                     · rfl
                     · (intro wx hS; exact exec_load_mid rfl rfl (ec_key (ec_range hS.2)) Try.underlying26 rfl (by kernel_rfl))
                     try simp only [Act.put, List.setIfInBounds_toArray, List.set_cons_zero, List.set_cons_succ])
                  | (apply Flow.call
                     · rfl
                     · intro wx hS; go_simp; constructor <;> with_reducible rfl
                     · intro wx hS; exact HKR wx
                     try simp only [Act.put, List.setIfInBounds_toArray, List.set_cons_zero, List.set_cons_succ])
                  | (apply Flow.value
                     · rfl
                     · (intro wx hS
                        have x0 : wx.cell? ⟨T, 0, none⟩ = some (.int .i64 z.1.d) := (hS.2.cell 0).trans (by rw [List.getElem?_toArray]; exact ec_0 _)
                        have x20 : wx.cell? ⟨T, 20, none⟩ = some (.slice z.1.wa z.1.wn z.1.wc) := (hS.2.cell 20).trans (by rw [List.getElem?_toArray]; exact ec_20 HLF.out.1)
                        have x21 : wx.cell? ⟨T, 21, none⟩ = some (.slice z.1.pa z.1.pn z.1.pc) := (hS.2.cell 21).trans (by rw [List.getElem?_toArray]; exact ec_21 HLF.out.1)
                        have y1 := hS.1.at_.2
                        clear hS
                        go_simp; with_reducible rfl)
                     try simp only [Act.put, List.setIfInBounds_toArray, List.set_cons_zero, List.set_cons_succ]))
                refine Flow.done ?_
                intro wq hS
                have G1' := Kp.mk (And.intro hS.1 hS.2)
                clear hS
                have PO : Kp (updOk f n = false) := ⟨by
                  cases ho : updOk f n with
                  | false => rfl
                  | true =>
                    have h9 := updOk_le (i := i + 1) ho (by omega)
                    rw [HSUC.out.1, HF.out] at h9
                    simp at h9⟩
                have PE : Kp (updE f n = 1) := ⟨by rw [HE2.out, PO.out]; rfl⟩
                have PX : Kp (updX u f n = []) := ⟨by rw [HX1.out, PE.out]; rfl⟩
                go_wp2_with fail
                exact bodyPost_ret (results_tmp2U rfl _ _ _ _) rfl ⟨.slice none 0 0, by rw [PE.out]; rfl, by rw [PX.out]; exact HoldsT.nil _, by rw [← HFe.out]; exact G1'.out.1.below⟩
              · have b2 : decide (8 ≤ z.1.d) = false := by simp; omega
                cases c3 : krB z.1.e z.1.s z.1.m with
                | false =>
                  rw [c3] at HKR
                  have HF : Kp (folB (lastD f i) z.1 = false) := ⟨by unfold folB; simp [c3]⟩
                  refine wp_region_flow (fun w' => RP w F O u (some ⟨b, off, none⟩) n c f (.slice ov on oc) L w' ∧ Blk w' T (.cells (ec z.1).toArray 32)) (by kernel_rfl) (by kernel_rfl) (by kernel_rfl)
                    (fun w1 w2 h hb => ⟨h.1.more hb, h.2.keep hb⟩) (⟨G1.out.1.more (Below.refl _ _).drew, G1.out.2.keep (Below.refl _ _).drew⟩) ?_
                  repeat (first
                    | (apply Flow.idle
                       · rfl
                       try simp only [Act.put, List.setIfInBounds_toArray, List.set_cons_zero, List.set_cons_succ])
                    | (apply Flow.value
                       · rfl
                       · (intro wx hS; exact exec_load_mid rfl rfl (ec_key (ec_range hS.2)) Try.underlying26 rfl (by kernel_rfl))
                       try simp only [Act.put, List.setIfInBounds_toArray, List.set_cons_zero, List.set_cons_succ])
                    | (apply Flow.call
                       · rfl
                       · intro wx hS; go_simp; constructor <;> with_reducible rfl
                       · intro wx hS; exact HKR wx
                       try simp only [Act.put, List.setIfInBounds_toArray, List.set_cons_zero, List.set_cons_succ])
                    | (apply Flow.value
                       · rfl
                       · (intro wx hS
                          have x0 : wx.cell? ⟨T, 0, none⟩ = some (.int .i64 z.1.d) := (hS.2.cell 0).trans (by rw [List.getElem?_toArray]; exact ec_0 _)
                          have x20 : wx.cell? ⟨T, 20, none⟩ = some (.slice z.1.wa z.1.wn z.1.wc) := (hS.2.cell 20).trans (by rw [List.getElem?_toArray]; exact ec_20 HLF.out.1)
                          have x21 : wx.cell? ⟨T, 21, none⟩ = some (.slice z.1.pa z.1.pn z.1.pc) := (hS.2.cell 21).trans (by rw [List.getElem?_toArray]; exact ec_21 HLF.out.1)
                          have y1 := hS.1.at_.2
                          clear hS
                          go_simp; with_reducible rfl)
                       try simp only [Act.put, List.setIfInBounds_toArray, List.set_cons_zero, List.set_cons_succ]))
                  refine Flow.done ?_
                  intro wq hS
                  have G1' := Kp.mk (And.intro hS.1 hS.2)
                  clear hS
                  have PO : Kp (updOk f n = false) := ⟨by
                    cases ho : updOk f n with
                    | false => rfl
                    | true =>
                      have h9 := updOk_le (i := i + 1) ho (by omega)
                      rw [HSUC.out.1, HF.out] at h9
                      simp at h9⟩
                  have PE : Kp (updE f n = 1) := ⟨by rw [HE2.out, PO.out]; rfl⟩
                  have PX : Kp (updX u f n = []) := ⟨by rw [HX1.out, PE.out]; rfl⟩
                  go_wp2_with fail
                  exact bodyPost_ret (results_tmp2U rfl _ _ _ _) rfl ⟨.slice none 0 0, by rw [PE.out]; rfl, by rw [PX.out]; exact HoldsT.nil _, by rw [← HFe.out]; exact G1'.out.1.below⟩
                | true =>
                  rw [c3] at HKR
                  by_cases c5 : 3 < z.1.wn
                  · have HF : Kp (folB (lastD f i) z.1 = false) := ⟨by unfold folB; simp; intros; omega⟩
                    have b5 : decide (3 < (z.1.wn : Int)) = true := by simp; omega
                    refine wp_region_flow (fun w' => RP w F O u (some ⟨b, off, none⟩) n c f (.slice ov on oc) L w' ∧ Blk w' T (.cells (ec z.1).toArray 32)) (by kernel_rfl) (by kernel_rfl) (by kernel_rfl)
                      (fun w1 w2 h hb => ⟨h.1.more hb, h.2.keep hb⟩) (⟨G1.out.1.more (Below.refl _ _).drew, G1.out.2.keep (Below.refl _ _).drew⟩) ?_
                    repeat (first
                      | (apply Flow.idle
                         · rfl
                         try simp only [Act.put, List.setIfInBounds_toArray, List.set_cons_zero, List.set_cons_succ])
                      | (apply Flow.value
                         · rfl
                         · (intro wx hS; exact exec_load_mid rfl rfl (ec_key (ec_range hS.2)) Try.underlying26 rfl (by kernel_rfl))
                         try simp only [Act.put, List.setIfInBounds_toArray, List.set_cons_zero, List.set_cons_succ])
                      | (apply Flow.call
                         · rfl
                         · intro wx hS; go_simp; constructor <;> with_reducible rfl
                         · intro wx hS; exact HKR wx
                         try simp only [Act.put, List.setIfInBounds_toArray, List.set_cons_zero, List.set_cons_succ])
                      | (apply Flow.value
                         · rfl
                         · (intro wx hS
                            have x0 : wx.cell? ⟨T, 0, none⟩ = some (.int .i64 z.1.d) := (hS.2.cell 0).trans (by rw [List.getElem?_toArray]; exact ec_0 _)
                            have x20 : wx.cell? ⟨T, 20, none⟩ = some (.slice z.1.wa z.1.wn z.1.wc) := (hS.2.cell 20).trans (by rw [List.getElem?_toArray]; exact ec_20 HLF.out.1)
                            have x21 : wx.cell? ⟨T, 21, none⟩ = some (.slice z.1.pa z.1.pn z.1.pc) := (hS.2.cell 21).trans (by rw [List.getElem?_toArray]; exact ec_21 HLF.out.1)
                            have y1 := hS.1.at_.2
                            clear hS
                            go_simp; with_reducible rfl)
                         try simp only [Act.put, List.setIfInBounds_toArray, List.set_cons_zero, List.set_cons_succ]))
                    refine Flow.done ?_
                    intro wq hS
                    have G1' := Kp.mk (And.intro hS.1 hS.2)
                    clear hS
                    have PO : Kp (updOk f n = false) := ⟨by
                      cases ho : updOk f n with
                      | false => rfl
                      | true =>
                        have h9 := updOk_le (i := i + 1) ho (by omega)
                        rw [HSUC.out.1, HF.out] at h9
                        simp at h9⟩
                    have PE : Kp (updE f n = 1) := ⟨by rw [HE2.out, PO.out]; rfl⟩
                    have PX : Kp (updX u f n = []) := ⟨by rw [HX1.out, PE.out]; rfl⟩
                    go_wp2_with fail
                    exact bodyPost_ret (results_tmp2U rfl _ _ _ _) rfl ⟨.slice none 0 0, by rw [PE.out]; rfl, by rw [PX.out]; exact HoldsT.nil _, by rw [← HFe.out]; exact G1'.out.1.below⟩
                  · have b5 : decide (3 < (z.1.wn : Int)) = false := by simp; omega
                    by_cases c6 : 6 < z.1.pn
                    · have HF : Kp (folB (lastD f i) z.1 = false) := ⟨by unfold folB; simp; intros; omega⟩
                      have b6 : decide (6 < (z.1.pn : Int)) = true := by simp; omega
                      refine wp_region_flow (fun w' => RP w F O u (some ⟨b, off, none⟩) n c f (.slice ov on oc) L w' ∧ Blk w' T (.cells (ec z.1).toArray 32)) (by kernel_rfl) (by kernel_rfl) (by kernel_rfl)
                        (fun w1 w2 h hb => ⟨h.1.more hb, h.2.keep hb⟩) (⟨G1.out.1.more (Below.refl _ _).drew, G1.out.2.keep (Below.refl _ _).drew⟩) ?_
                      repeat (first
                        | (apply Flow.idle
                           · rfl
                           try simp only [Act.put, List.setIfInBounds_toArray, List.set_cons_zero, List.set_cons_succ])
                        | (apply Flow.value
                           · rfl
                           · (intro wx hS; exact exec_load_mid rfl rfl (ec_key (ec_range hS.2)) Try.underlying26 rfl (by kernel_rfl))
                           try simp only [Act.put, List.setIfInBounds_toArray, List.set_cons_zero, List.set_cons_succ])
                        | (apply Flow.call
                           · rfl
                           · intro wx hS; go_simp; constructor <;> with_reducible rfl
                           · intro wx hS; exact HKR wx
                           try simp only [Act.put, List.setIfInBounds_toArray, List.set_cons_zero, List.set_cons_succ])
                        | (apply Flow.value
                           · rfl
                           · (intro wx hS
                              have x0 : wx.cell? ⟨T, 0, none⟩ = some (.int .i64 z.1.d) := (hS.2.cell 0).trans (by rw [List.getElem?_toArray]; exact ec_0 _)
                              have x20 : wx.cell? ⟨T, 20, none⟩ = some (.slice z.1.wa z.1.wn z.1.wc) := (hS.2.cell 20).trans (by rw [List.getElem?_toArray]; exact ec_20 HLF.out.1)
                              have x21 : wx.cell? ⟨T, 21, none⟩ = some (.slice z.1.pa z.1.pn z.1.pc) := (hS.2.cell 21).trans (by rw [List.getElem?_toArray]; exact ec_21 HLF.out.1)
                              have y1 := hS.1.at_.2
                              clear hS
                              go_simp; with_reducible rfl)
                           try simp only [Act.put, List.setIfInBounds_toArray, List.set_cons_zero, List.set_cons_succ]))
                      refine Flow.done ?_
                      intro wq hS
                      have G1' := Kp.mk (And.intro hS.1 hS.2)
                      clear hS
                      have PO : Kp (updOk f n = false) := ⟨by
                        cases ho : updOk f n with
                        | false => rfl
                        | true =>
                          have h9 := updOk_le (i := i + 1) ho (by omega)
                          rw [HSUC.out.1, HF.out] at h9
                          simp at h9⟩
                      have PE : Kp (updE f n = 1) := ⟨by rw [HE2.out, PO.out]; rfl⟩
                      have PX : Kp (updX u f n = []) := ⟨by rw [HX1.out, PE.out]; rfl⟩
                      go_wp2_with fail
                      exact bodyPost_ret (results_tmp2U rfl _ _ _ _) rfl ⟨.slice none 0 0, by rw [PE.out]; rfl, by rw [PX.out]; exact HoldsT.nil _, by rw [← HFe.out]; exact G1'.out.1.below⟩
                    · have b6 : decide (6 < (z.1.pn : Int)) = false := by simp; omega
                      have HF : Kp (folB (lastD f i) z.1 = true) := ⟨by rw [HLJ.out]; unfold folB; simp [c3]; omega⟩
                      refine wp_region_flow (fun w' => RP w F O u (some ⟨b, off, none⟩) n c f (.slice ov on oc) L w' ∧ Blk w' T (.cells (ec z.1).toArray 32)) (by kernel_rfl) (by kernel_rfl) (by kernel_rfl)
                        (fun w1 w2 h hb => ⟨h.1.more hb, h.2.keep hb⟩) (⟨G1.out.1.more (Below.refl _ _).drew, G1.out.2.keep (Below.refl _ _).drew⟩) ?_
                      repeat (first
                        | (apply Flow.idle
                           · rfl
                           try simp only [Act.put, List.setIfInBounds_toArray, List.set_cons_zero, List.set_cons_succ])
                        | (apply Flow.value
                           · rfl
                           · (intro wx hS; exact exec_load_mid rfl rfl (ec_key (ec_range hS.2)) Try.underlying26 rfl (by kernel_rfl))
                           try simp only [Act.put, List.setIfInBounds_toArray, List.set_cons_zero, List.set_cons_succ])
                        | (apply Flow.call
                           · rfl
                           · intro wx hS; go_simp; constructor <;> with_reducible rfl
                           · intro wx hS; exact HKR wx
                           try simp only [Act.put, List.setIfInBounds_toArray, List.set_cons_zero, List.set_cons_succ])
                        | (apply Flow.value
                           · rfl
                           · (intro wx hS
                              have x0 : wx.cell? ⟨T, 0, none⟩ = some (.int .i64 z.1.d) := (hS.2.cell 0).trans (by rw [List.getElem?_toArray]; exact ec_0 _)
                              have x20 : wx.cell? ⟨T, 20, none⟩ = some (.slice z.1.wa z.1.wn z.1.wc) := (hS.2.cell 20).trans (by rw [List.getElem?_toArray]; exact ec_20 HLF.out.1)
                              have x21 : wx.cell? ⟨T, 21, none⟩ = some (.slice z.1.pa z.1.pn z.1.pc) := (hS.2.cell 21).trans (by rw [List.getElem?_toArray]; exact ec_21 HLF.out.1)
                              have y1 := hS.1.at_.2
                              clear hS
                              go_simp; with_reducible rfl)
                           try simp only [Act.put, List.setIfInBounds_toArray, List.set_cons_zero, List.set_cons_succ]))
                      refine Flow.done ?_
                      intro wq hS
                      have G1' := Kp.mk (And.intro hS.1 hS.2)
                      clear hS
                      have HOK1 : Kp (updOk f (i + 1) = true) := ⟨by rw [HSUC.out.1, HOKI.out.1, HF.out]; rfl⟩
                      have HXO := Kp.mk (EV.ok_ofw G1'.out.1.e HLTN.out HF.out HZ9.out)
                      have HEN : Kp ((entsB f (i + 1)).length ≤ 200 * (i + 1)) := ⟨by rw [entsB_succ, List.length_append]; have h1 := entB_lenw (G1'.out.1.e.e i HLTN.out) (last := lastD f i) (by rw [← HZ9.out]; exact HF.out); have := HOKI.out.2; omega⟩
                      have HZW : Kp (HoldsS wq (.slice z.1.wa z.1.wn z.1.wc) z.1.wn z.2.1 ∧ HoldsS wq (.slice z.1.pa z.1.pn z.1.pc) z.1.pn z.2.2) := ⟨by rw [HZ9.out]; exact (G1'.out.1.e.e i HLTN.out).hw, by rw [HZ9.out]; exact (G1'.out.1.e.e i HLTN.out).hp⟩
                      have HWN : Kp (z.1.wn ≤ 3 ∧ z.1.pn ≤ 6) := ⟨HXO.out.w, HXO.out.p⟩
                      have HD : Kp ((0 ≤ z.1.d ∧ z.1.d < 18446744073709551616) ∧ (0 ≤ z.1.e ∧ z.1.e < 18446744073709551616) ∧ (0 ≤ z.1.s ∧ z.1.s < 18446744073709551616) ∧ (0 ≤ z.1.m ∧ z.1.m < 18446744073709551616)) := ⟨by have := HXO.out.d; have := HXO.out.e; have := HXO.out.s; have := HXO.out.m; omega⟩
                      have HK : Kp (IntKind.u64.wrap z.1.d = z.1.d ∧ IntKind.u64.wrap z.1.e = z.1.e ∧ IntKind.u64.wrap z.1.s = z.1.s ∧ IntKind.u64.wrap z.1.m = z.1.m) := ⟨u64_wrap (by have := HD.out; omega), u64_wrap (by have := HD.out; omega), u64_wrap (by have := HD.out; omega), u64_wrap (by have := HD.out; omega)⟩
                      obtain ⟨L1, hL1⟩ : ∃ x, x = L ++ digs z.1.d 1 := ⟨_, rfl⟩
                      obtain ⟨M2, hM2⟩ : ∃ x, x = L1 ++ digs z.1.e 4 := ⟨_, rfl⟩
                      obtain ⟨L3, hL3⟩ : ∃ x, x = M2 ++ digs z.1.s 1 := ⟨_, rfl⟩
                      obtain ⟨L4, hL4⟩ : ∃ x, x = L3 ++ digs z.1.m 1 := ⟨_, rfl⟩
                      obtain ⟨L5, hL5⟩ : ∃ x, x = L4 ++ z.1.lf := ⟨_, rfl⟩
                      obtain ⟨L6, hL6⟩ : ∃ x, x = L5 ++ digs z.1.wn 1 ++ z.2.1 := ⟨_, rfl⟩
                      obtain ⟨L7, hL7⟩ : ∃ x, x = L6 ++ digs z.1.pn 1 ++ z.2.2 := ⟨_, rfl⟩
                      have HL7 : Kp (LB ++ entsB f (i + 1) = L7) := ⟨by rw [hL7, hL6, hL5, hL4, hL3, hM2, hL1, HLE.out, entsB_succ, ← HZ9.out]; unfold entB; simp only [List.append_assoc]⟩
                      have hz1 := (HZW.out.1).lenB.1
                      have hz2 := (HZW.out.2).lenB.1
                      have HL : Kp (L.length ≤ 10000 ∧ L1.length ≤ 10001 ∧ M2.length ≤ 10005 ∧ L3.length ≤ 10006 ∧ L4.length ≤ 10007 ∧ L5.length ≤ 10023 ∧ L6.length ≤ 10100) := ⟨by
                        have h0 : L.length ≤ 10000 := HLL.out
                        have h1 : L1.length = L.length + 1 := by rw [hL1, List.length_append, digs_len]
                        have h2 : M2.length = L1.length + 4 := by rw [hM2, List.length_append, digs_len]
                        have h3 : L3.length = M2.length + 1 := by rw [hL3, List.length_append, digs_len]
                        have h4 : L4.length = L3.length + 1 := by rw [hL4, List.length_append, digs_len]
                        have h5 : L5.length = L4.length + 16 := by rw [hL5, List.length_append, HLF.out.1]
                        have h6 : L6.length = L5.length + 1 + z.1.wn * 16 := by rw [hL6, List.length_append, List.length_append, digs_len, hz1]
                        have := HWN.out
                        omega⟩
                      have E1 : Kp ((if 256 ^ 1 ≤ z.1.d then L else L ++ digs z.1.d 1) = L1 ∧ numF false z.1.d 1 = false) := ⟨by rw [hL1]; exact rnum_ok (by have := HXO.out.d; omega)⟩
                      have E2 : Kp ((if 256 ^ 4 ≤ z.1.e then L1 else L1 ++ digs z.1.e 4) = M2 ∧ numF false z.1.e 4 = false) := ⟨by rw [hM2]; exact rnum_ok (by have := HXO.out.e; omega)⟩
                      have E3 : Kp ((if 256 ^ 1 ≤ z.1.s then M2 else M2 ++ digs z.1.s 1) = L3 ∧ numF false z.1.s 1 = false) := ⟨by rw [hL3]; exact rnum_ok (by have := HXO.out.s; omega)⟩
                      have E4 : Kp ((if 256 ^ 1 ≤ z.1.m then L3 else L3 ++ digs z.1.m 1) = L4 ∧ numF false z.1.m 1 = false) := ⟨by rw [hL4]; exact rnum_ok (by have := HXO.out.m; omega)⟩
                      have E5 : Kp (L5 = L4 ++ z.1.lf) := ⟨hL5⟩
                      have E6 : Kp (rsumsL L5 z.2.1 z.1.wn = L6 ∧ numF false z.1.wn 1 = false) := ⟨by rw [hL6]; exact rsums_ok' (by have := HWN.out; omega)⟩
                      have E7 : Kp (rsumsL L6 z.2.2 z.1.pn = L7 ∧ numF false z.1.pn 1 = false) := ⟨by rw [hL7]; exact rsums_ok' (by have := HWN.out; omega)⟩
                      have HT : Kp (O < T) := HOT
                      clear hL1 hM2 hL3 hL4 hL5 hL6 hL7 hz1 hz2
                      clear G1
                      have G1 := G1'
                      clear G1'
                      go_wp2_with fail
                      refine wp_region_pred (fun w' => RP w F O u (some ⟨b, off, none⟩) n c f (.slice ov on oc) L w' ∧ Blk w' T (.cells (ec z.1).toArray 32)) [0, 1, 2, 3, 4, 5, 6, 7, 8, 9, 10, 11, 12, 13, 14, 15, 16, 17, 18, 19] [20]
                        (fun ι w' v => match ι with
                          | 0 => v = routV (.slice ov on oc) false
                          | 1 => v = .pointer (some ⟨T, 0, none⟩)
                          | 2 => v = .int .i64 z.1.d
                          | 3 => v = .int .u64 z.1.d
                          | 5 | 6 | 10 | 15 => v = .pointer (some ⟨T, 1, none⟩)
                          | 7 => v = .int .u32 z.1.e
                          | 8 => v = .int .u64 z.1.e
                          | 11 => v = .pointer (some ⟨T, 2, none⟩)
                          | 12 => v = .int .u32 z.1.s
                          | 13 => v = .int .u64 z.1.s
                          | 16 => v = .pointer (some ⟨T, 3, none⟩)
                          | 17 => v = .int .i64 z.1.m
                          | 18 => v = .int .u64 z.1.m
                          | 4 => ∃ u, v = routV u false ∧ HoldsT w' u L1
                          | 9 => ∃ u, v = routV u false ∧ HoldsT w' u M2
                          | 14 => ∃ u, v = routV u false ∧ HoldsT w' u L3
                          | 19 => ∃ u, v = routV u false ∧ HoldsT w' u L4
                          | _ => v = .bool true)
                        [[], [], [(1, some 80)], [(2, some 81)], [(0, some 79), (3, some 82)], [], [(5, some 84)], [(6, some 85)], [(7, some 86)], [(4, some 83), (8, some 87)], [], [(10, some 89)], [(11, some 90)], [(12, some 91)], [(9, some 88), (13, some 92)], [], [(15, some 94)], [(16, some 95)], [(17, some 96)], [(14, some 93), (18, some 97)]]
                        [(0, some 79), (1, some 80), (2, some 81), (3, some 82), (4, some 83), (5, some 84), (6, some 85), (7, some 86), (8, some 87), (9, some 88), (10, some 89), (11, some 90), (12, some 91), (13, some 92), (14, some 93), (15, some 94), (16, some 95), (17, some 96), (18, some 97), (19, some 98)]
                        (by kernel_rfl) (by kernel_rfl) (by kernel_rfl) (by kernel_rfl) (by kernel_rfl) (by kernel_rfl) (by decide) (by decide) (fun w1 w2 h hb => ⟨h.1.more hb, h.2.keep hb⟩) ?_ ⟨G1.out.1.more (Below.refl _ _).drew, G1.out.2.keep (Below.refl _ _).drew⟩ ?_ ?_
                      · intro ι w1 w2 v h hb
                        by_cases h4 : ι = 4
                        · subst h4
                          exact (by obtain ⟨u, e, hg⟩ := h; exact ⟨u, e, hg.grow hb⟩)
                        by_cases h9 : ι = 9
                        · subst h9
                          exact (by obtain ⟨u, e, hg⟩ := h; exact ⟨u, e, hg.grow hb⟩)
                        by_cases h14 : ι = 14
                        · subst h14
                          exact (by obtain ⟨u, e, hg⟩ := h; exact ⟨u, e, hg.grow hb⟩)
                        by_cases h19 : ι = 19
                        · subst h19
                          exact (by obtain ⟨u, e, hg⟩ := h; exact ⟨u, e, hg.grow hb⟩)
                        match ι, h4, h9, h14, h19, h with
                        | 0, _, _, _, _, h => exact h
                        | 1, _, _, _, _, h => exact h
                        | 2, _, _, _, _, h => exact h
                        | 3, _, _, _, _, h => exact h
                        | 4, g, _, _, _, h => exact absurd rfl g
                        | 5, _, _, _, _, h => exact h
                        | 6, _, _, _, _, h => exact h
                        | 7, _, _, _, _, h => exact h
                        | 8, _, _, _, _, h => exact h
                        | 9, _, g, _, _, h => exact absurd rfl g
                        | 10, _, _, _, _, h => exact h
                        | 11, _, _, _, _, h => exact h
                        | 12, _, _, _, _, h => exact h
                        | 13, _, _, _, _, h => exact h
                        | 14, _, _, g, _, h => exact absurd rfl g
                        | 15, _, _, _, _, h => exact h
                        | 16, _, _, _, _, h => exact h
                        | 17, _, _, _, _, h => exact h
                        | 18, _, _, _, _, h => exact h
                        | 19, _, _, _, g, h => exact absurd rfl g
                        | _ + 20, _, _, _, _, h => exact h
                      · refine ⟨fun γ wx hS h => ?_, fun γ wx hS h => ?_, fun γ wx hS h => ?_, fun γ wx hS h => ?_, fun γ wx hS h => ?_, fun γ wx hS h => ?_, fun γ wx hS h => ?_, fun γ wx hS h => ?_, fun γ wx hS h => ?_, fun γ wx hS h => ?_, fun γ wx hS h => ?_, fun γ wx hS h => ?_, fun γ wx hS h => ?_, fun γ wx hS h => ?_, fun γ wx hS h => ?_, fun γ wx hS h => ?_, fun γ wx hS h => ?_, fun γ wx hS h => ?_, fun γ wx hS h => ?_, fun γ wx hS h => ?_, trivial⟩
                        · refine ⟨_, rfl, ?_⟩
                          refine predOp_val (v := routV (.slice ov on oc) false) ?_ ?_ ?_
                          · kernel_rfl
                          · exact exec_load_blk 112 (.tmp 4) rfl O rfl 112 #[.slice ov on oc, .bool false] (0, 0) _ hS.1.o Try.underlying112 rfl info122s
                          · rfl
                        · refine ⟨_, rfl, ?_⟩
                          refine predOp_val (v := .pointer (some ⟨T, 0, none⟩)) ?_ ?_ ?_
                          · kernel_rfl
                          · simp only [putE]
                            go_simp
                          · rfl
                        · have h1 := h
                          have e1 : γ 1 = .pointer (some ⟨T, 0, none⟩) := h1
                          have hcell : wx.cell? ⟨T, 0, none⟩ = some (.int .i64 z.1.d) := (hS.2.cell 0).trans (by rw [List.getElem?_toArray]; exact ec_0 _)
                          refine ⟨_, rfl, ?_⟩
                          refine predOp_val (v := .int .i64 z.1.d) ?_ ?_ ?_
                          · kernel_rfl
                          · simp only [putE, e1]
                            go_simp
                          · rfl
                        · have h2 := h
                          have e2 : γ 2 = .int .i64 z.1.d := h2
                          have hq := HK.out.1
                          refine ⟨_, rfl, ?_⟩
                          refine predOp_val (v := .int .u64 z.1.d) ?_ ?_ ?_
                          · kernel_rfl
                          · simp only [putE, e2]
                            go_simp
                          · rfl
                        · obtain ⟨h0, h3⟩ := h
                          have e0 : γ 0 = routV (.slice ov on oc) false := h0
                          have e3 : γ 3 = .int .u64 z.1.d := h3
                          refine ⟨_, rfl, Or.inl ⟨rfl, predRun_call (f := 46) (args := #[routV (.slice ov on oc) false, .int .u64 z.1.d, .int .i64 (1 : Nat)]) (by simp only [putE, e0, e3]; go_simp) ?_⟩⟩
                          exact (rnum_any _ (.slice ov on oc) L false z.1.d 1 wx hS.1.h.1 (Nat.le_refl _) HD.out.1.1 HD.out.1.2 (by decide) (by have := HL.out.1; omega)).mono fun r w9 ⟨v', h1, h2, h3, h4⟩ => ⟨_, h1, ⟨v', by rw [E1.out.2], by rw [← E1.out.1]; exact HoldsT.made hS.1.h.2 h2 h3 h4⟩, h4⟩
                        · refine ⟨_, rfl, ?_⟩
                          refine predOp_val (v := .pointer (some ⟨T, 1, none⟩)) ?_ ?_ ?_
                          · kernel_rfl
                          · simp only [putE]
                            go_simp
                          · rfl
                        · have h5 := h
                          have e5 : γ 5 = .pointer (some ⟨T, 1, none⟩) := h5
                          refine ⟨_, rfl, ?_⟩
                          refine predOp_val (v := .pointer (some ⟨T, 1, none⟩)) ?_ ?_ ?_
                          · kernel_rfl
                          · simp only [putE, e5]
                            go_simp
                          · rfl
                        · have h6 := h
                          have e6 : γ 6 = .pointer (some ⟨T, 1, none⟩) := h6
                          have hcell : wx.cell? ⟨T, 1, none⟩ = some (.int .u32 z.1.e) := (hS.2.cell 1).trans (by rw [List.getElem?_toArray]; exact ec_1 _)
                          refine ⟨_, rfl, ?_⟩
                          refine predOp_val (v := .int .u32 z.1.e) ?_ ?_ ?_
                          · kernel_rfl
                          · simp only [putE, e6]
                            go_simp
                          · rfl
                        · have h7 := h
                          have e7 : γ 7 = .int .u32 z.1.e := h7
                          have hq := HK.out.2.1
                          refine ⟨_, rfl, ?_⟩
                          refine predOp_val (v := .int .u64 z.1.e) ?_ ?_ ?_
                          · kernel_rfl
                          · simp only [putE, e7]
                            go_simp
                          · rfl
                        · obtain ⟨h4, h8⟩ := h
                          have p4 : ∃ u, (γ 4) = routV u false ∧ HoldsT wx u L1 := h4
                          have e8 : γ 8 = .int .u64 z.1.e := h8
                          obtain ⟨u9, e4, hu⟩ := p4
                          refine ⟨_, rfl, Or.inl ⟨rfl, predRun_call (f := 46) (args := #[routV u9 false, .int .u64 z.1.e, .int .i64 (4 : Nat)]) (by simp only [putE, e8]; go_simp) ?_⟩⟩
                          exact (rnum_any _ u9 L1 false z.1.e 4 wx hu.1 (Nat.le_refl _) HD.out.2.1.1 HD.out.2.1.2 (by decide) (by have := HL.out.2.1; omega)).mono fun r w9 ⟨v', h1, h2, h3, h4⟩ => ⟨_, h1, ⟨v', by rw [E2.out.2], by rw [← E2.out.1]; exact HoldsT.made hu.2 h2 h3 h4⟩, h4⟩
                        · refine ⟨_, rfl, ?_⟩
                          refine predOp_val (v := .pointer (some ⟨T, 1, none⟩)) ?_ ?_ ?_
                          · kernel_rfl
                          · simp only [putE]
                            go_simp
                          · rfl
                        · have h10 := h
                          have e10 : γ 10 = .pointer (some ⟨T, 1, none⟩) := h10
                          refine ⟨_, rfl, ?_⟩
                          refine predOp_val (v := .pointer (some ⟨T, 2, none⟩)) ?_ ?_ ?_
                          · kernel_rfl
                          · simp only [putE, e10]
                            go_simp
                          · rfl
                        · have h11 := h
                          have e11 : γ 11 = .pointer (some ⟨T, 2, none⟩) := h11
                          have hcell : wx.cell? ⟨T, 2, none⟩ = some (.int .u32 z.1.s) := (hS.2.cell 2).trans (by rw [List.getElem?_toArray]; exact ec_2 _)
                          refine ⟨_, rfl, ?_⟩
                          refine predOp_val (v := .int .u32 z.1.s) ?_ ?_ ?_
                          · kernel_rfl
                          · simp only [putE, e11]
                            go_simp
                          · rfl
                        · have h12 := h
                          have e12 : γ 12 = .int .u32 z.1.s := h12
                          have hq := HK.out.2.2.1
                          refine ⟨_, rfl, ?_⟩
                          refine predOp_val (v := .int .u64 z.1.s) ?_ ?_ ?_
                          · kernel_rfl
                          · simp only [putE, e12]
                            go_simp
                          · rfl
                        · obtain ⟨h9, h13⟩ := h
                          have p9 : ∃ u, (γ 9) = routV u false ∧ HoldsT wx u M2 := h9
                          have e13 : γ 13 = .int .u64 z.1.s := h13
                          obtain ⟨u9, e9, hu⟩ := p9
                          refine ⟨_, rfl, Or.inl ⟨rfl, predRun_call (f := 46) (args := #[routV u9 false, .int .u64 z.1.s, .int .i64 (1 : Nat)]) (by simp only [putE, e13]; go_simp) ?_⟩⟩
                          exact (rnum_any _ u9 M2 false z.1.s 1 wx hu.1 (Nat.le_refl _) HD.out.2.2.1.1 HD.out.2.2.1.2 (by decide) (by have := HL.out.2.2.1; omega)).mono fun r w9 ⟨v', h1, h2, h3, h4⟩ => ⟨_, h1, ⟨v', by rw [E3.out.2], by rw [← E3.out.1]; exact HoldsT.made hu.2 h2 h3 h4⟩, h4⟩
                        · refine ⟨_, rfl, ?_⟩
                          refine predOp_val (v := .pointer (some ⟨T, 1, none⟩)) ?_ ?_ ?_
                          · kernel_rfl
                          · simp only [putE]
                            go_simp
                          · rfl
                        · have h15 := h
                          have e15 : γ 15 = .pointer (some ⟨T, 1, none⟩) := h15
                          refine ⟨_, rfl, ?_⟩
                          refine predOp_val (v := .pointer (some ⟨T, 3, none⟩)) ?_ ?_ ?_
                          · kernel_rfl
                          · simp only [putE, e15]
                            go_simp
                          · rfl
                        · have h16 := h
                          have e16 : γ 16 = .pointer (some ⟨T, 3, none⟩) := h16
                          have hcell : wx.cell? ⟨T, 3, none⟩ = some (.int .i64 z.1.m) := (hS.2.cell 3).trans (by rw [List.getElem?_toArray]; exact ec_3 _)
                          refine ⟨_, rfl, ?_⟩
                          refine predOp_val (v := .int .i64 z.1.m) ?_ ?_ ?_
                          · kernel_rfl
                          · simp only [putE, e16]
                            go_simp
                          · rfl
                        · have h17 := h
                          have e17 : γ 17 = .int .i64 z.1.m := h17
                          have hq := HK.out.2.2.2
                          refine ⟨_, rfl, ?_⟩
                          refine predOp_val (v := .int .u64 z.1.m) ?_ ?_ ?_
                          · kernel_rfl
                          · simp only [putE, e17]
                            go_simp
                          · rfl
                        · obtain ⟨h14, h18⟩ := h
                          have p14 : ∃ u, (γ 14) = routV u false ∧ HoldsT wx u L3 := h14
                          have e18 : γ 18 = .int .u64 z.1.m := h18
                          obtain ⟨u9, e14, hu⟩ := p14
                          refine ⟨_, rfl, Or.inl ⟨rfl, predRun_call (f := 46) (args := #[routV u9 false, .int .u64 z.1.m, .int .i64 (1 : Nat)]) (by simp only [putE, e18]; go_simp) ?_⟩⟩
                          exact (rnum_any _ u9 L3 false z.1.m 1 wx hu.1 (Nat.le_refl _) HD.out.2.2.2.1 HD.out.2.2.2.2 (by decide) (by have := HL.out.2.2.2.1; omega)).mono fun r w9 ⟨v', h1, h2, h3, h4⟩ => ⟨_, h1, ⟨v', by rw [E4.out.2], by rw [← E4.out.1]; exact HoldsT.made hu.2 h2 h3 h4⟩, h4⟩
                      · intro γ w9 hS h
                        obtain ⟨u9, eu, hu⟩ := h.2.2.2.2.2.2.2.2.2.2.2.2.2.2.2.2.2.2.2
                        have G2 := Kp.mk hS
                        have H3' := Kp.mk hu
                        simp only [putE, Act.put, List.setIfInBounds_toArray, List.set_cons_zero, List.set_cons_succ]
                        rw [eu]
                        clear h hS hu eu
                        obtain ⟨pa, pn, pc, rfl, -⟩ := H3'.out.1.slice
                        refine wpOps_step rfl rfl ?_
                        refine wp_store_rowD rfl 112 (.tmp 4) (.tmp 98) rfl O #[.slice pa pn pc, .bool false] rfl rfl 112 _ G2.out.1.o info122s rfl (two_one _ _ _ _) ?_
                        have G3 : Kp (RP w F O u (some ⟨b, off, none⟩) n c f (.slice pa pn pc) L4 (w9.setRow O #[.slice pa pn pc, .bool false]) ∧ Blk (w9.setRow O #[.slice pa pn pc, .bool false]) T (.cells (ec z.1).toArray 32)) := ⟨G2.out.1.put H3'.out, (Turn.ofRow G2.out.1.o _).keep G2.out.2 (by have := HT.out; omega)⟩
                        clear G2 H3'
                        generalize w9.setRow O #[.slice pa pn pc, .bool false] = w10 at *
                        refine wpOps_done ?_
                        go_wp2_with fail
                        clear G1 E1 E2 E3 E4
                        have HZW := Kp.mk (And.intro (show HoldsS w10 (.slice z.1.wa z.1.wn z.1.wc) z.1.wn z.2.1 by rw [HZ9.out]; exact (G3.out.1.e.e i HLTN.out).hw) (show HoldsS w10 (.slice z.1.pa z.1.pn z.1.pc) z.1.pn z.2.2 by rw [HZ9.out]; exact (G3.out.1.e.e i HLTN.out).hp))
                        refine wp_region_pred (fun w' => RP w F O u (some ⟨b, off, none⟩) n c f (.slice pa pn pc) L4 w' ∧ Blk w' T (.cells (ec z.1).toArray 32) ∧ HoldsS w' (.slice z.1.wa z.1.wn z.1.wc) z.1.wn z.2.1 ∧ HoldsS w' (.slice z.1.pa z.1.pn z.1.pc) z.1.pn z.2.2) [0, 1, 2, 3, 4, 5, 6, 7, 8, 9, 10, 11, 12] [13]
                          (fun ι w' v => match ι with
                            | 0 => v = routV (.slice pa pn pc) false
                            | 1 | 2 | 5 | 9 => v = .pointer (some ⟨T, 4, none⟩)
                            | 3 => v = .slice (some ⟨T, 4, none⟩) 16 16
                            | 6 => v = .pointer (some ⟨T, 20, none⟩)
                            | 7 => v = .slice z.1.wa z.1.wn z.1.wc
                            | 10 => v = .pointer (some ⟨T, 21, none⟩)
                            | 11 => v = .slice z.1.pa z.1.pn z.1.pc
                            | 4 => ∃ u, v = routV u false ∧ HoldsT w' u L5
                            | 8 => ∃ u, v = routV u false ∧ HoldsT w' u L6
                            | 12 => ∃ u, v = routV u false ∧ HoldsT w' u L7
                            | _ => v = .bool true)
                          [[], [], [(1, some 100)], [(2, some 101)], [(0, some 99), (3, some 102)], [], [(5, some 104)], [(6, some 105)], [(4, some 103), (7, some 106)], [], [(9, some 108)], [(10, some 109)], [(8, some 107), (11, some 110)]]
                          [(0, some 99), (1, some 100), (2, some 101), (3, some 102), (4, some 103), (5, some 104), (6, some 105), (7, some 106), (8, some 107), (9, some 108), (10, some 109), (11, some 110), (12, some 111)]
                          (by kernel_rfl) (by kernel_rfl) (by kernel_rfl) (by kernel_rfl) (by kernel_rfl) (by kernel_rfl) (by decide) (by decide) (fun w1 w2 h hb => ⟨h.1.more hb, h.2.1.keep hb, h.2.2.1.keep hb, h.2.2.2.keep hb⟩) ?_ ⟨G3.out.1.more (Below.refl _ _).drew, G3.out.2.keep (Below.refl _ _).drew, HZW.out.1.keep (Below.refl _ _).drew, HZW.out.2.keep (Below.refl _ _).drew⟩ ?_ ?_
                        · intro ι w1 w2 v h hb
                          by_cases h4 : ι = 4
                          · subst h4
                            exact (by obtain ⟨u, e, hg⟩ := h; exact ⟨u, e, hg.grow hb⟩)
                          by_cases h8 : ι = 8
                          · subst h8
                            exact (by obtain ⟨u, e, hg⟩ := h; exact ⟨u, e, hg.grow hb⟩)
                          by_cases h12 : ι = 12
                          · subst h12
                            exact (by obtain ⟨u, e, hg⟩ := h; exact ⟨u, e, hg.grow hb⟩)
                          match ι, h4, h8, h12, h with
                          | 0, _, _, _, h => exact h
                          | 1, _, _, _, h => exact h
                          | 2, _, _, _, h => exact h
                          | 3, _, _, _, h => exact h
                          | 4, g, _, _, h => exact absurd rfl g
                          | 5, _, _, _, h => exact h
                          | 6, _, _, _, h => exact h
                          | 7, _, _, _, h => exact h
                          | 8, _, g, _, h => exact absurd rfl g
                          | 9, _, _, _, h => exact h
                          | 10, _, _, _, h => exact h
                          | 11, _, _, _, h => exact h
                          | 12, _, _, g, h => exact absurd rfl g
                          | _ + 13, _, _, _, h => exact h
                        · refine ⟨fun γ wx hS h => ?_, fun γ wx hS h => ?_, fun γ wx hS h => ?_, fun γ wx hS h => ?_, fun γ wx hS h => ?_, fun γ wx hS h => ?_, fun γ wx hS h => ?_, fun γ wx hS h => ?_, fun γ wx hS h => ?_, fun γ wx hS h => ?_, fun γ wx hS h => ?_, fun γ wx hS h => ?_, fun γ wx hS h => ?_, trivial⟩
                          · refine ⟨_, rfl, ?_⟩
                            refine predOp_val (v := routV (.slice pa pn pc) false) ?_ ?_ ?_
                            · kernel_rfl
                            · exact exec_load_blk 112 (.tmp 4) rfl O rfl 112 #[.slice pa pn pc, .bool false] (0, 0) _ hS.1.o Try.underlying112 rfl info122s
                            · rfl
                          · refine ⟨_, rfl, ?_⟩
                            refine predOp_val (v := .pointer (some ⟨T, 4, none⟩)) ?_ ?_ ?_
                            · kernel_rfl
                            · simp only [putE]
                              go_simp
                            · rfl
                          · have h1 := h
                            have e1 : γ 1 = .pointer (some ⟨T, 4, none⟩) := h1
                            refine ⟨_, rfl, ?_⟩
                            refine predOp_val (v := .pointer (some ⟨T, 4, none⟩)) ?_ ?_ ?_
                            · kernel_rfl
                            · simp only [putE, e1]
                              go_simp
                            · rfl
                          · have h2 := h
                            have e2 : γ 2 = .pointer (some ⟨T, 4, none⟩) := h2
                            refine ⟨_, rfl, ?_⟩
                            refine predOp_val (v := .slice (some ⟨T, 4, none⟩) 16 16) ?_ ?_ ?_
                            · kernel_rfl
                            · simp only [putE, e2]
                              go_simp
                            · rfl
                          · obtain ⟨h0, h3⟩ := h
                            have e0 : γ 0 = routV (.slice pa pn pc) false := h0
                            have e3 : γ 3 = .slice (some ⟨T, 4, none⟩) 16 16 := h3
                            refine ⟨_, rfl, Or.inl ⟨rfl, predRun_call (f := 48) (args := #[routV (.slice pa pn pc) false, .slice (some ⟨T, 4, none⟩) 16 16]) (by simp only [putE, e0, e3]; go_simp) ?_⟩⟩
                            exact (rraw_out _ (.slice pa pn pc) _ L4 z.1.lf false wx hS.1.h.1 (HoldsB.leaf hS.2.1 HLF.out.1 HLF.out.2 (ec_leaf z.1)) (by have := HL.out.2.2.2.2.1; have := HLF.out.1; omega)).mono fun r w9 ⟨v', h1, h2, h3, h4⟩ => ⟨_, h1, ⟨v', rfl, by rw [E5.out]; exact HoldsT.made hS.1.h.2 h2 h3 h4⟩, h4⟩
                          · refine ⟨_, rfl, ?_⟩
                            refine predOp_val (v := .pointer (some ⟨T, 4, none⟩)) ?_ ?_ ?_
                            · kernel_rfl
                            · simp only [putE]
                              go_simp
                            · rfl
                          · have h5 := h
                            have e5 : γ 5 = .pointer (some ⟨T, 4, none⟩) := h5
                            refine ⟨_, rfl, ?_⟩
                            refine predOp_val (v := .pointer (some ⟨T, 20, none⟩)) ?_ ?_ ?_
                            · kernel_rfl
                            · simp only [putE, e5]
                              go_simp
                            · rfl
                          · have h6 := h
                            have e6 : γ 6 = .pointer (some ⟨T, 20, none⟩) := h6
                            have hcell : wx.cell? ⟨T, 20, none⟩ = some (.slice z.1.wa z.1.wn z.1.wc) := (hS.2.1.cell 20).trans (by rw [List.getElem?_toArray]; exact ec_20 HLF.out.1)
                            refine ⟨_, rfl, ?_⟩
                            refine predOp_val (v := .slice z.1.wa z.1.wn z.1.wc) ?_ ?_ ?_
                            · kernel_rfl
                            · simp only [putE, e6]
                              go_simp
                            · rfl
                          · obtain ⟨h4, h7⟩ := h
                            have p4 : ∃ u, (γ 4) = routV u false ∧ HoldsT wx u L5 := h4
                            have e7 : γ 7 = .slice z.1.wa z.1.wn z.1.wc := h7
                            obtain ⟨u9, e4, hu⟩ := p4
                            refine ⟨_, rfl, Or.inl ⟨rfl, predRun_call (f := 49) (args := #[routV u9 false, .slice z.1.wa z.1.wn z.1.wc]) (by simp only [putE, e7]; go_simp) ?_⟩⟩
                            exact (rosums_any _ u9 (.slice z.1.wa z.1.wn z.1.wc) L5 _ _ false wx hu.1 hS.2.2.1 (by have := HWN.out; omega) (Nat.le_refl _) (by have := HL.out.2.2.2.2.2.1; omega)).mono fun r w9 ⟨v', h1, h2, h3, h4⟩ => ⟨_, h1, ⟨v', by rw [E6.out.2], by rw [← E6.out.1]; exact HoldsT.made hu.2 h2 h3 h4⟩, h4⟩
                          · refine ⟨_, rfl, ?_⟩
                            refine predOp_val (v := .pointer (some ⟨T, 4, none⟩)) ?_ ?_ ?_
                            · kernel_rfl
                            · simp only [putE]
                              go_simp
                            · rfl
                          · have h9 := h
                            have e9 : γ 9 = .pointer (some ⟨T, 4, none⟩) := h9
                            refine ⟨_, rfl, ?_⟩
                            refine predOp_val (v := .pointer (some ⟨T, 21, none⟩)) ?_ ?_ ?_
                            · kernel_rfl
                            · simp only [putE, e9]
                              go_simp
                            · rfl
                          · have h10 := h
                            have e10 : γ 10 = .pointer (some ⟨T, 21, none⟩) := h10
                            have hcell : wx.cell? ⟨T, 21, none⟩ = some (.slice z.1.pa z.1.pn z.1.pc) := (hS.2.1.cell 21).trans (by rw [List.getElem?_toArray]; exact ec_21 HLF.out.1)
                            refine ⟨_, rfl, ?_⟩
                            refine predOp_val (v := .slice z.1.pa z.1.pn z.1.pc) ?_ ?_ ?_
                            · kernel_rfl
                            · simp only [putE, e10]
                              go_simp
                            · rfl
                          · obtain ⟨h8, h11⟩ := h
                            have p8 : ∃ u, (γ 8) = routV u false ∧ HoldsT wx u L6 := h8
                            have e11 : γ 11 = .slice z.1.pa z.1.pn z.1.pc := h11
                            obtain ⟨u9, e8, hu⟩ := p8
                            refine ⟨_, rfl, Or.inl ⟨rfl, predRun_call (f := 49) (args := #[routV u9 false, .slice z.1.pa z.1.pn z.1.pc]) (by simp only [putE, e11]; go_simp) ?_⟩⟩
                            exact (rosums_any _ u9 (.slice z.1.pa z.1.pn z.1.pc) L6 _ _ false wx hu.1 hS.2.2.2 (by have := HWN.out; omega) (Nat.le_refl _) (by have := HL.out.2.2.2.2.2.2; omega)).mono fun r w9 ⟨v', h1, h2, h3, h4⟩ => ⟨_, h1, ⟨v', by rw [E7.out.2], by rw [← E7.out.1]; exact HoldsT.made hu.2 h2 h3 h4⟩, h4⟩
                        · intro γ w9 hS h
                          obtain ⟨u9, eu, hu⟩ := h.2.2.2.2.2.2.2.2.2.2.2.2
                          have G4 := Kp.mk hS.1
                          have H3' := Kp.mk hu
                          simp only [putE, Act.put, List.setIfInBounds_toArray, List.set_cons_zero, List.set_cons_succ]
                          rw [eu]
                          clear h hS hu eu
                          obtain ⟨qa, qn, qc, rfl, -⟩ := H3'.out.1.slice
                          refine wpOps_step rfl rfl ?_
                          refine wp_store_rowD rfl 112 (.tmp 4) (.tmp 111) rfl O #[.slice qa qn qc, .bool false] rfl rfl 112 _ G4.out.o info122s rfl (two_one _ _ _ _) ?_
                          have G5 : Kp (RP w F O u (some ⟨b, off, none⟩) n c f (.slice qa qn qc) L7 (w9.setRow O #[.slice qa qn qc, .bool false])) := ⟨G4.out.put H3'.out⟩
                          clear G4 H3'
                          generalize w9.setRow O #[.slice qa qn qc, .bool false] = w11 at *
                          refine wpOps_done ?_
                          go_wp2_with fail
                          exact ⟨⟨i + 1, _, _, _, by omega, by go_num, ⟨HOK1.out, HEN.out⟩, ⟨by rw [HL7.out]; exact G5.out⟩⟩, by simp [intOf]; omega⟩
          · obtain ⟨j, hj⟩ : ∃ j, i = j + 1 := ⟨i - 1, by omega⟩
            have HLJ : Kp (lastD f i = (f j).1.d) := ⟨by rw [hj]; rfl⟩
            have HPJ : Kp (wT.rangeAt b (off + j * 22) (ec (f j).1) ∧ b < wT.heap.size) := ⟨by
              obtain ⟨b', off', e1, _, e3, e4⟩ := G1.out.1.e.c j (by omega)
              cases e1
              exact ⟨e4, e3⟩⟩
            have b0 : decide (0 < (i : Int)) = true := by simp; omega
            have hij : IntKind.i64.wrap ((i : Int) - 1) = (j : Int) := by rw [hj]; simp [IntKind.wrap, IntKind.bits, IntKind.signed]; omega
            have hwj : IntKind.i64.wrap (j : Int) = (j : Int) := by simp [IntKind.wrap, IntKind.bits, IntKind.signed]; omega
            have hj0 : ¬ (j : Int) < 0 := by omega
            have hjn : (j : Int) < (n : Int) := by omega
            have HIJ := Kp.mk hj
            clear hj
            by_cases c1 : z.1.d < 0
            · have HF : Kp (folB (lastD f i) z.1 = false) := ⟨by unfold folB; simp; intros; omega⟩
              have b1 : decide (z.1.d < 0) = true := by simp [c1]
              refine wp_region_flow (fun w' => RP w F O u (some ⟨b, off, none⟩) n c f (.slice ov on oc) L w' ∧ Blk w' T (.cells (ec z.1).toArray 32) ∧ (w'.rangeAt b (off + j * 22) (ec (f j).1) ∧ b < w'.heap.size)) (by kernel_rfl) (by kernel_rfl) (by kernel_rfl)
                (fun w1 w2 h hb => ⟨h.1.more hb, h.2.1.keep hb, rangeAt_keepU h.2.2.1 (hb.block _ h.2.2.2), Nat.lt_of_lt_of_le h.2.2.2 hb.size⟩) (⟨G1.out.1.more (Below.refl _ _).drew, G1.out.2.keep (Below.refl _ _).drew, rangeAt_keepU HPJ.out.1 ((Below.refl wT.heap.size wT).drew.block _ HPJ.out.2), HPJ.out.2⟩) ?_
              repeat (first
                | (apply Flow.idle
                   · rfl
                   try simp only [Act.put, List.setIfInBounds_toArray, List.set_cons_zero, List.set_cons_succ])
                | (apply Flow.value
                   · rfl
                   · (intro wx hS; exact exec_load_mid rfl rfl (ec_key (ec_range hS.2.1)) Try.underlying26 rfl (by kernel_rfl))
                   try simp only [Act.put, List.setIfInBounds_toArray, List.set_cons_zero, List.set_cons_succ])
                | (apply Flow.call
                   · rfl
                   · intro wx hS; go_simp; constructor <;> with_reducible rfl
                   · intro wx hS; exact HKR wx
                   try simp only [Act.put, List.setIfInBounds_toArray, List.set_cons_zero, List.set_cons_succ])
                | (apply Flow.value
                   · rfl
                   · (intro wx hS
                      have x0 : wx.cell? ⟨T, 0, none⟩ = some (.int .i64 z.1.d) := (hS.2.1.cell 0).trans (by rw [List.getElem?_toArray]; exact ec_0 _)
                      have x20 : wx.cell? ⟨T, 20, none⟩ = some (.slice z.1.wa z.1.wn z.1.wc) := (hS.2.1.cell 20).trans (by rw [List.getElem?_toArray]; exact ec_20 HLF.out.1)
                      have x21 : wx.cell? ⟨T, 21, none⟩ = some (.slice z.1.pa z.1.pn z.1.pc) := (hS.2.1.cell 21).trans (by rw [List.getElem?_toArray]; exact ec_21 HLF.out.1)
                      have y1 := hS.1.at_.2
                      have yj := ec_at0 hS.2.2.1
                      clear hS
                      go_simp; with_reducible rfl)
                   try simp only [Act.put, List.setIfInBounds_toArray, List.set_cons_zero, List.set_cons_succ]))
              refine Flow.done ?_
              intro wq hS
              have G1' := Kp.mk (And.intro hS.1 hS.2.1)
              clear hS
              have PO : Kp (updOk f n = false) := ⟨by
                cases ho : updOk f n with
                | false => rfl
                | true =>
                  have h9 := updOk_le (i := i + 1) ho (by omega)
                  rw [HSUC.out.1, HF.out] at h9
                  simp at h9⟩
              have PE : Kp (updE f n = 1) := ⟨by rw [HE2.out, PO.out]; rfl⟩
              have PX : Kp (updX u f n = []) := ⟨by rw [HX1.out, PE.out]; rfl⟩
              go_wp2_with fail
              exact bodyPost_ret (results_tmp2U rfl _ _ _ _) rfl ⟨.slice none 0 0, by rw [PE.out]; rfl, by rw [PX.out]; exact HoldsT.nil _, by rw [← HFe.out]; exact G1'.out.1.below⟩
            · have b1 : decide (z.1.d < 0) = false := by simp; omega
              by_cases c2 : 8 ≤ z.1.d
              · have HF : Kp (folB (lastD f i) z.1 = false) := ⟨by unfold folB; simp; intros; omega⟩
                have b2 : decide (8 ≤ z.1.d) = true := by simp [c2]
                refine wp_region_flow (fun w' => RP w F O u (some ⟨b, off, none⟩) n c f (.slice ov on oc) L w' ∧ Blk w' T (.cells (ec z.1).toArray 32) ∧ (w'.rangeAt b (off + j * 22) (ec (f j).1) ∧ b < w'.heap.size)) (by kernel_rfl) (by kernel_rfl) (by kernel_rfl)
                  (fun w1 w2 h hb => ⟨h.1.more hb, h.2.1.keep hb, rangeAt_keepU h.2.2.1 (hb.block _ h.2.2.2), Nat.lt_of_lt_of_le h.2.2.2 hb.size⟩) (⟨G1.out.1.more (Below.refl _ _).drew, G1.out.2.keep (Below.refl _ _).drew, rangeAt_keepU HPJ.out.1 ((Below.refl wT.heap.size wT).drew.block _ HPJ.out.2), HPJ.out.2⟩) ?_
                repeat (first
                  | (apply Flow.idle
                     · rfl
                     try simp only [Act.put, List.setIfInBounds_toArray, List.set_cons_zero, List.set_cons_succ])
                  | (apply Flow.value
                     · rfl
                     · (intro wx hS; exact exec_load_mid rfl rfl (ec_key (ec_range hS.2.1)) Try.underlying26 rfl (by kernel_rfl))
                     try simp only [Act.put, List.setIfInBounds_toArray, List.set_cons_zero, List.set_cons_succ])
                  | (apply Flow.call
                     · rfl
                     · intro wx hS; go_simp; constructor <;> with_reducible rfl
                     · intro wx hS; exact HKR wx
                     try simp only [Act.put, List.setIfInBounds_toArray, List.set_cons_zero, List.set_cons_succ])
                  | (apply Flow.value
                     · rfl
                     · (intro wx hS
                        have x0 : wx.cell? ⟨T, 0, none⟩ = some (.int .i64 z.1.d) := (hS.2.1.cell 0).trans (by rw [List.getElem?_toArray]; exact ec_0 _)
                        have x20 : wx.cell? ⟨T, 20, none⟩ = some (.slice z.1.wa z.1.wn z.1.wc) := (hS.2.1.cell 20).trans (by rw [List.getElem?_toArray]; exact ec_20 HLF.out.1)
                        have x21 : wx.cell? ⟨T, 21, none⟩ = some (.slice z.1.pa z.1.pn z.1.pc) := (hS.2.1.cell 21).trans (by rw [List.getElem?_toArray]; exact ec_21 HLF.out.1)
                        have y1 := hS.1.at_.2
                        have yj := ec_at0 hS.2.2.1
                        clear hS
                        go_simp; with_reducible rfl)
                     try simp only [Act.put, List.setIfInBounds_toArray, List.set_cons_zero, List.set_cons_succ]))
                refine Flow.done ?_
                intro wq hS
                have G1' := Kp.mk (And.intro hS.1 hS.2.1)
                clear hS
                have PO : Kp (updOk f n = false) := ⟨by
                  cases ho : updOk f n with
                  | false => rfl
                  | true =>
                    have h9 := updOk_le (i := i + 1) ho (by omega)
                    rw [HSUC.out.1, HF.out] at h9
                    simp at h9⟩
                have PE : Kp (updE f n = 1) := ⟨by rw [HE2.out, PO.out]; rfl⟩
                have PX : Kp (updX u f n = []) := ⟨by rw [HX1.out, PE.out]; rfl⟩
                go_wp2_with fail
                exact bodyPost_ret (results_tmp2U rfl _ _ _ _) rfl ⟨.slice none 0 0, by rw [PE.out]; rfl, by rw [PX.out]; exact HoldsT.nil _, by rw [← HFe.out]; exact G1'.out.1.below⟩
              · have b2 : decide (8 ≤ z.1.d) = false := by simp; omega
                cases c3 : krB z.1.e z.1.s z.1.m with
                | false =>
                  rw [c3] at HKR
                  have HF : Kp (folB (lastD f i) z.1 = false) := ⟨by unfold folB; simp [c3]⟩
                  refine wp_region_flow (fun w' => RP w F O u (some ⟨b, off, none⟩) n c f (.slice ov on oc) L w' ∧ Blk w' T (.cells (ec z.1).toArray 32) ∧ (w'.rangeAt b (off + j * 22) (ec (f j).1) ∧ b < w'.heap.size)) (by kernel_rfl) (by kernel_rfl) (by kernel_rfl)
                    (fun w1 w2 h hb => ⟨h.1.more hb, h.2.1.keep hb, rangeAt_keepU h.2.2.1 (hb.block _ h.2.2.2), Nat.lt_of_lt_of_le h.2.2.2 hb.size⟩) (⟨G1.out.1.more (Below.refl _ _).drew, G1.out.2.keep (Below.refl _ _).drew, rangeAt_keepU HPJ.out.1 ((Below.refl wT.heap.size wT).drew.block _ HPJ.out.2), HPJ.out.2⟩) ?_
                  repeat (first
                    | (apply Flow.idle
                       · rfl
                       try simp only [Act.put, List.setIfInBounds_toArray, List.set_cons_zero, List.set_cons_succ])
                    | (apply Flow.value
                       · rfl
                       · (intro wx hS; exact exec_load_mid rfl rfl (ec_key (ec_range hS.2.1)) Try.underlying26 rfl (by kernel_rfl))
                       try simp only [Act.put, List.setIfInBounds_toArray, List.set_cons_zero, List.set_cons_succ])
                    | (apply Flow.call
                       · rfl
                       · intro wx hS; go_simp; constructor <;> with_reducible rfl
                       · intro wx hS; exact HKR wx
                       try simp only [Act.put, List.setIfInBounds_toArray, List.set_cons_zero, List.set_cons_succ])
                    | (apply Flow.value
                       · rfl
                       · (intro wx hS
                          have x0 : wx.cell? ⟨T, 0, none⟩ = some (.int .i64 z.1.d) := (hS.2.1.cell 0).trans (by rw [List.getElem?_toArray]; exact ec_0 _)
                          have x20 : wx.cell? ⟨T, 20, none⟩ = some (.slice z.1.wa z.1.wn z.1.wc) := (hS.2.1.cell 20).trans (by rw [List.getElem?_toArray]; exact ec_20 HLF.out.1)
                          have x21 : wx.cell? ⟨T, 21, none⟩ = some (.slice z.1.pa z.1.pn z.1.pc) := (hS.2.1.cell 21).trans (by rw [List.getElem?_toArray]; exact ec_21 HLF.out.1)
                          have y1 := hS.1.at_.2
                          have yj := ec_at0 hS.2.2.1
                          clear hS
                          go_simp; with_reducible rfl)
                       try simp only [Act.put, List.setIfInBounds_toArray, List.set_cons_zero, List.set_cons_succ]))
                  refine Flow.done ?_
                  intro wq hS
                  have G1' := Kp.mk (And.intro hS.1 hS.2.1)
                  clear hS
                  have PO : Kp (updOk f n = false) := ⟨by
                    cases ho : updOk f n with
                    | false => rfl
                    | true =>
                      have h9 := updOk_le (i := i + 1) ho (by omega)
                      rw [HSUC.out.1, HF.out] at h9
                      simp at h9⟩
                  have PE : Kp (updE f n = 1) := ⟨by rw [HE2.out, PO.out]; rfl⟩
                  have PX : Kp (updX u f n = []) := ⟨by rw [HX1.out, PE.out]; rfl⟩
                  go_wp2_with fail
                  exact bodyPost_ret (results_tmp2U rfl _ _ _ _) rfl ⟨.slice none 0 0, by rw [PE.out]; rfl, by rw [PX.out]; exact HoldsT.nil _, by rw [← HFe.out]; exact G1'.out.1.below⟩
                | true =>
                  rw [c3] at HKR
                  by_cases c4 : z.1.d ≤ (f j).1.d
                  · have HF : Kp (folB (lastD f i) z.1 = false) := ⟨by rw [HLJ.out]; unfold folB; simp; intros; omega⟩
                    have b4 : decide (z.1.d ≤ (f j).1.d) = true := by simp [c4]
                    refine wp_region_flow (fun w' => RP w F O u (some ⟨b, off, none⟩) n c f (.slice ov on oc) L w' ∧ Blk w' T (.cells (ec z.1).toArray 32) ∧ (w'.rangeAt b (off + j * 22) (ec (f j).1) ∧ b < w'.heap.size)) (by kernel_rfl) (by kernel_rfl) (by kernel_rfl)
                      (fun w1 w2 h hb => ⟨h.1.more hb, h.2.1.keep hb, rangeAt_keepU h.2.2.1 (hb.block _ h.2.2.2), Nat.lt_of_lt_of_le h.2.2.2 hb.size⟩) (⟨G1.out.1.more (Below.refl _ _).drew, G1.out.2.keep (Below.refl _ _).drew, rangeAt_keepU HPJ.out.1 ((Below.refl wT.heap.size wT).drew.block _ HPJ.out.2), HPJ.out.2⟩) ?_
                    repeat (first
                      | (apply Flow.idle
                         · rfl
                         try simp only [Act.put, List.setIfInBounds_toArray, List.set_cons_zero, List.set_cons_succ])
                      | (apply Flow.value
                         · rfl
                         · (intro wx hS; exact exec_load_mid rfl rfl (ec_key (ec_range hS.2.1)) Try.underlying26 rfl (by kernel_rfl))
                         try simp only [Act.put, List.setIfInBounds_toArray, List.set_cons_zero, List.set_cons_succ])
                      | (apply Flow.call
                         · rfl
                         · intro wx hS; go_simp; constructor <;> with_reducible rfl
                         · intro wx hS; exact HKR wx
                         try simp only [Act.put, List.setIfInBounds_toArray, List.set_cons_zero, List.set_cons_succ])
                      | (apply Flow.value
                         · rfl
                         · (intro wx hS
                            have x0 : wx.cell? ⟨T, 0, none⟩ = some (.int .i64 z.1.d) := (hS.2.1.cell 0).trans (by rw [List.getElem?_toArray]; exact ec_0 _)
                            have x20 : wx.cell? ⟨T, 20, none⟩ = some (.slice z.1.wa z.1.wn z.1.wc) := (hS.2.1.cell 20).trans (by rw [List.getElem?_toArray]; exact ec_20 HLF.out.1)
                            have x21 : wx.cell? ⟨T, 21, none⟩ = some (.slice z.1.pa z.1.pn z.1.pc) := (hS.2.1.cell 21).trans (by rw [List.getElem?_toArray]; exact ec_21 HLF.out.1)
                            have y1 := hS.1.at_.2
                            have yj := ec_at0 hS.2.2.1
                            clear hS
                            go_simp; with_reducible rfl)
                         try simp only [Act.put, List.setIfInBounds_toArray, List.set_cons_zero, List.set_cons_succ]))
                    refine Flow.done ?_
                    intro wq hS
                    have G1' := Kp.mk (And.intro hS.1 hS.2.1)
                    clear hS
                    have PO : Kp (updOk f n = false) := ⟨by
                      cases ho : updOk f n with
                      | false => rfl
                      | true =>
                        have h9 := updOk_le (i := i + 1) ho (by omega)
                        rw [HSUC.out.1, HF.out] at h9
                        simp at h9⟩
                    have PE : Kp (updE f n = 1) := ⟨by rw [HE2.out, PO.out]; rfl⟩
                    have PX : Kp (updX u f n = []) := ⟨by rw [HX1.out, PE.out]; rfl⟩
                    go_wp2_with fail
                    exact bodyPost_ret (results_tmp2U rfl _ _ _ _) rfl ⟨.slice none 0 0, by rw [PE.out]; rfl, by rw [PX.out]; exact HoldsT.nil _, by rw [← HFe.out]; exact G1'.out.1.below⟩
                  · have b4 : decide (z.1.d ≤ (f j).1.d) = false := by simp; omega
                    by_cases c5 : 3 < z.1.wn
                    · have HF : Kp (folB (lastD f i) z.1 = false) := ⟨by unfold folB; simp; intros; omega⟩
                      have b5 : decide (3 < (z.1.wn : Int)) = true := by simp; omega
                      refine wp_region_flow (fun w' => RP w F O u (some ⟨b, off, none⟩) n c f (.slice ov on oc) L w' ∧ Blk w' T (.cells (ec z.1).toArray 32) ∧ (w'.rangeAt b (off + j * 22) (ec (f j).1) ∧ b < w'.heap.size)) (by kernel_rfl) (by kernel_rfl) (by kernel_rfl)
                        (fun w1 w2 h hb => ⟨h.1.more hb, h.2.1.keep hb, rangeAt_keepU h.2.2.1 (hb.block _ h.2.2.2), Nat.lt_of_lt_of_le h.2.2.2 hb.size⟩) (⟨G1.out.1.more (Below.refl _ _).drew, G1.out.2.keep (Below.refl _ _).drew, rangeAt_keepU HPJ.out.1 ((Below.refl wT.heap.size wT).drew.block _ HPJ.out.2), HPJ.out.2⟩) ?_
                      repeat (first
                        | (apply Flow.idle
                           · rfl
                           try simp only [Act.put, List.setIfInBounds_toArray, List.set_cons_zero, List.set_cons_succ])
                        | (apply Flow.value
                           · rfl
                           · (intro wx hS; exact exec_load_mid rfl rfl (ec_key (ec_range hS.2.1)) Try.underlying26 rfl (by kernel_rfl))
                           try simp only [Act.put, List.setIfInBounds_toArray, List.set_cons_zero, List.set_cons_succ])
                        | (apply Flow.call
                           · rfl
                           · intro wx hS; go_simp; constructor <;> with_reducible rfl
                           · intro wx hS; exact HKR wx
                           try simp only [Act.put, List.setIfInBounds_toArray, List.set_cons_zero, List.set_cons_succ])
                        | (apply Flow.value
                           · rfl
                           · (intro wx hS
                              have x0 : wx.cell? ⟨T, 0, none⟩ = some (.int .i64 z.1.d) := (hS.2.1.cell 0).trans (by rw [List.getElem?_toArray]; exact ec_0 _)
                              have x20 : wx.cell? ⟨T, 20, none⟩ = some (.slice z.1.wa z.1.wn z.1.wc) := (hS.2.1.cell 20).trans (by rw [List.getElem?_toArray]; exact ec_20 HLF.out.1)
                              have x21 : wx.cell? ⟨T, 21, none⟩ = some (.slice z.1.pa z.1.pn z.1.pc) := (hS.2.1.cell 21).trans (by rw [List.getElem?_toArray]; exact ec_21 HLF.out.1)
                              have y1 := hS.1.at_.2
                              have yj := ec_at0 hS.2.2.1
                              clear hS
                              go_simp; with_reducible rfl)
                           try simp only [Act.put, List.setIfInBounds_toArray, List.set_cons_zero, List.set_cons_succ]))
                      refine Flow.done ?_
                      intro wq hS
                      have G1' := Kp.mk (And.intro hS.1 hS.2.1)
                      clear hS
                      have PO : Kp (updOk f n = false) := ⟨by
                        cases ho : updOk f n with
                        | false => rfl
                        | true =>
                          have h9 := updOk_le (i := i + 1) ho (by omega)
                          rw [HSUC.out.1, HF.out] at h9
                          simp at h9⟩
                      have PE : Kp (updE f n = 1) := ⟨by rw [HE2.out, PO.out]; rfl⟩
                      have PX : Kp (updX u f n = []) := ⟨by rw [HX1.out, PE.out]; rfl⟩
                      go_wp2_with fail
                      exact bodyPost_ret (results_tmp2U rfl _ _ _ _) rfl ⟨.slice none 0 0, by rw [PE.out]; rfl, by rw [PX.out]; exact HoldsT.nil _, by rw [← HFe.out]; exact G1'.out.1.below⟩
                    · have b5 : decide (3 < (z.1.wn : Int)) = false := by simp; omega
                      by_cases c6 : 6 < z.1.pn
                      · have HF : Kp (folB (lastD f i) z.1 = false) := ⟨by unfold folB; simp; intros; omega⟩
                        have b6 : decide (6 < (z.1.pn : Int)) = true := by simp; omega
                        refine wp_region_flow (fun w' => RP w F O u (some ⟨b, off, none⟩) n c f (.slice ov on oc) L w' ∧ Blk w' T (.cells (ec z.1).toArray 32) ∧ (w'.rangeAt b (off + j * 22) (ec (f j).1) ∧ b < w'.heap.size)) (by kernel_rfl) (by kernel_rfl) (by kernel_rfl)
                          (fun w1 w2 h hb => ⟨h.1.more hb, h.2.1.keep hb, rangeAt_keepU h.2.2.1 (hb.block _ h.2.2.2), Nat.lt_of_lt_of_le h.2.2.2 hb.size⟩) (⟨G1.out.1.more (Below.refl _ _).drew, G1.out.2.keep (Below.refl _ _).drew, rangeAt_keepU HPJ.out.1 ((Below.refl wT.heap.size wT).drew.block _ HPJ.out.2), HPJ.out.2⟩) ?_
                        repeat (first
                          | (apply Flow.idle
                             · rfl
                             try simp only [Act.put, List.setIfInBounds_toArray, List.set_cons_zero, List.set_cons_succ])
                          | (apply Flow.value
                             · rfl
                             · (intro wx hS; exact exec_load_mid rfl rfl (ec_key (ec_range hS.2.1)) Try.underlying26 rfl (by kernel_rfl))
                             try simp only [Act.put, List.setIfInBounds_toArray, List.set_cons_zero, List.set_cons_succ])
                          | (apply Flow.call
                             · rfl
                             · intro wx hS; go_simp; constructor <;> with_reducible rfl
                             · intro wx hS; exact HKR wx
                             try simp only [Act.put, List.setIfInBounds_toArray, List.set_cons_zero, List.set_cons_succ])
                          | (apply Flow.value
                             · rfl
                             · (intro wx hS
                                have x0 : wx.cell? ⟨T, 0, none⟩ = some (.int .i64 z.1.d) := (hS.2.1.cell 0).trans (by rw [List.getElem?_toArray]; exact ec_0 _)
                                have x20 : wx.cell? ⟨T, 20, none⟩ = some (.slice z.1.wa z.1.wn z.1.wc) := (hS.2.1.cell 20).trans (by rw [List.getElem?_toArray]; exact ec_20 HLF.out.1)
                                have x21 : wx.cell? ⟨T, 21, none⟩ = some (.slice z.1.pa z.1.pn z.1.pc) := (hS.2.1.cell 21).trans (by rw [List.getElem?_toArray]; exact ec_21 HLF.out.1)
                                have y1 := hS.1.at_.2
                                have yj := ec_at0 hS.2.2.1
                                clear hS
                                go_simp; with_reducible rfl)
                             try simp only [Act.put, List.setIfInBounds_toArray, List.set_cons_zero, List.set_cons_succ]))
                        refine Flow.done ?_
                        intro wq hS
                        have G1' := Kp.mk (And.intro hS.1 hS.2.1)
                        clear hS
                        have PO : Kp (updOk f n = false) := ⟨by
                          cases ho : updOk f n with
                          | false => rfl
                          | true =>
                            have h9 := updOk_le (i := i + 1) ho (by omega)
                            rw [HSUC.out.1, HF.out] at h9
                            simp at h9⟩
                        have PE : Kp (updE f n = 1) := ⟨by rw [HE2.out, PO.out]; rfl⟩
                        have PX : Kp (updX u f n = []) := ⟨by rw [HX1.out, PE.out]; rfl⟩
                        go_wp2_with fail
                        exact bodyPost_ret (results_tmp2U rfl _ _ _ _) rfl ⟨.slice none 0 0, by rw [PE.out]; rfl, by rw [PX.out]; exact HoldsT.nil _, by rw [← HFe.out]; exact G1'.out.1.below⟩
                      · have b6 : decide (6 < (z.1.pn : Int)) = false := by simp; omega
                        have HF : Kp (folB (lastD f i) z.1 = true) := ⟨by rw [HLJ.out]; unfold folB; simp [c3]; omega⟩
                        refine wp_region_flow (fun w' => RP w F O u (some ⟨b, off, none⟩) n c f (.slice ov on oc) L w' ∧ Blk w' T (.cells (ec z.1).toArray 32) ∧ (w'.rangeAt b (off + j * 22) (ec (f j).1) ∧ b < w'.heap.size)) (by kernel_rfl) (by kernel_rfl) (by kernel_rfl)
                          (fun w1 w2 h hb => ⟨h.1.more hb, h.2.1.keep hb, rangeAt_keepU h.2.2.1 (hb.block _ h.2.2.2), Nat.lt_of_lt_of_le h.2.2.2 hb.size⟩) (⟨G1.out.1.more (Below.refl _ _).drew, G1.out.2.keep (Below.refl _ _).drew, rangeAt_keepU HPJ.out.1 ((Below.refl wT.heap.size wT).drew.block _ HPJ.out.2), HPJ.out.2⟩) ?_
                        repeat (first
                          | (apply Flow.idle
                             · rfl
                             try simp only [Act.put, List.setIfInBounds_toArray, List.set_cons_zero, List.set_cons_succ])
                          | (apply Flow.value
                             · rfl
                             · (intro wx hS; exact exec_load_mid rfl rfl (ec_key (ec_range hS.2.1)) Try.underlying26 rfl (by kernel_rfl))
                             try simp only [Act.put, List.setIfInBounds_toArray, List.set_cons_zero, List.set_cons_succ])
                          | (apply Flow.call
                             · rfl
                             · intro wx hS; go_simp; constructor <;> with_reducible rfl
                             · intro wx hS; exact HKR wx
                             try simp only [Act.put, List.setIfInBounds_toArray, List.set_cons_zero, List.set_cons_succ])
                          | (apply Flow.value
                             · rfl
                             · (intro wx hS
                                have x0 : wx.cell? ⟨T, 0, none⟩ = some (.int .i64 z.1.d) := (hS.2.1.cell 0).trans (by rw [List.getElem?_toArray]; exact ec_0 _)
                                have x20 : wx.cell? ⟨T, 20, none⟩ = some (.slice z.1.wa z.1.wn z.1.wc) := (hS.2.1.cell 20).trans (by rw [List.getElem?_toArray]; exact ec_20 HLF.out.1)
                                have x21 : wx.cell? ⟨T, 21, none⟩ = some (.slice z.1.pa z.1.pn z.1.pc) := (hS.2.1.cell 21).trans (by rw [List.getElem?_toArray]; exact ec_21 HLF.out.1)
                                have y1 := hS.1.at_.2
                                have yj := ec_at0 hS.2.2.1
                                clear hS
                                go_simp; with_reducible rfl)
                             try simp only [Act.put, List.setIfInBounds_toArray, List.set_cons_zero, List.set_cons_succ]))
                        refine Flow.done ?_
                        intro wq hS
                        have G1' := Kp.mk (And.intro hS.1 hS.2.1)
                        clear hS
                        have HOK1 : Kp (updOk f (i + 1) = true) := ⟨by rw [HSUC.out.1, HOKI.out.1, HF.out]; rfl⟩
                        have HXO := Kp.mk (EV.ok_ofw G1'.out.1.e HLTN.out HF.out HZ9.out)
                        have HEN : Kp ((entsB f (i + 1)).length ≤ 200 * (i + 1)) := ⟨by rw [entsB_succ, List.length_append]; have h1 := entB_lenw (G1'.out.1.e.e i HLTN.out) (last := lastD f i) (by rw [← HZ9.out]; exact HF.out); have := HOKI.out.2; omega⟩
                        have HZW : Kp (HoldsS wq (.slice z.1.wa z.1.wn z.1.wc) z.1.wn z.2.1 ∧ HoldsS wq (.slice z.1.pa z.1.pn z.1.pc) z.1.pn z.2.2) := ⟨by rw [HZ9.out]; exact (G1'.out.1.e.e i HLTN.out).hw, by rw [HZ9.out]; exact (G1'.out.1.e.e i HLTN.out).hp⟩
                        have HWN : Kp (z.1.wn ≤ 3 ∧ z.1.pn ≤ 6) := ⟨HXO.out.w, HXO.out.p⟩
                        have HD : Kp ((0 ≤ z.1.d ∧ z.1.d < 18446744073709551616) ∧ (0 ≤ z.1.e ∧ z.1.e < 18446744073709551616) ∧ (0 ≤ z.1.s ∧ z.1.s < 18446744073709551616) ∧ (0 ≤ z.1.m ∧ z.1.m < 18446744073709551616)) := ⟨by have := HXO.out.d; have := HXO.out.e; have := HXO.out.s; have := HXO.out.m; omega⟩
                        have HK : Kp (IntKind.u64.wrap z.1.d = z.1.d ∧ IntKind.u64.wrap z.1.e = z.1.e ∧ IntKind.u64.wrap z.1.s = z.1.s ∧ IntKind.u64.wrap z.1.m = z.1.m) := ⟨u64_wrap (by have := HD.out; omega), u64_wrap (by have := HD.out; omega), u64_wrap (by have := HD.out; omega), u64_wrap (by have := HD.out; omega)⟩
                        obtain ⟨L1, hL1⟩ : ∃ x, x = L ++ digs z.1.d 1 := ⟨_, rfl⟩
                        obtain ⟨M2, hM2⟩ : ∃ x, x = L1 ++ digs z.1.e 4 := ⟨_, rfl⟩
                        obtain ⟨L3, hL3⟩ : ∃ x, x = M2 ++ digs z.1.s 1 := ⟨_, rfl⟩
                        obtain ⟨L4, hL4⟩ : ∃ x, x = L3 ++ digs z.1.m 1 := ⟨_, rfl⟩
                        obtain ⟨L5, hL5⟩ : ∃ x, x = L4 ++ z.1.lf := ⟨_, rfl⟩
                        obtain ⟨L6, hL6⟩ : ∃ x, x = L5 ++ digs z.1.wn 1 ++ z.2.1 := ⟨_, rfl⟩
                        obtain ⟨L7, hL7⟩ : ∃ x, x = L6 ++ digs z.1.pn 1 ++ z.2.2 := ⟨_, rfl⟩
                        have HL7 : Kp (LB ++ entsB f (i + 1) = L7) := ⟨by rw [hL7, hL6, hL5, hL4, hL3, hM2, hL1, HLE.out, entsB_succ, ← HZ9.out]; unfold entB; simp only [List.append_assoc]⟩
                        have hz1 := (HZW.out.1).lenB.1
                        have hz2 := (HZW.out.2).lenB.1
                        have HL : Kp (L.length ≤ 10000 ∧ L1.length ≤ 10001 ∧ M2.length ≤ 10005 ∧ L3.length ≤ 10006 ∧ L4.length ≤ 10007 ∧ L5.length ≤ 10023 ∧ L6.length ≤ 10100) := ⟨by
                          have h0 : L.length ≤ 10000 := HLL.out
                          have h1 : L1.length = L.length + 1 := by rw [hL1, List.length_append, digs_len]
                          have h2 : M2.length = L1.length + 4 := by rw [hM2, List.length_append, digs_len]
                          have h3 : L3.length = M2.length + 1 := by rw [hL3, List.length_append, digs_len]
                          have h4 : L4.length = L3.length + 1 := by rw [hL4, List.length_append, digs_len]
                          have h5 : L5.length = L4.length + 16 := by rw [hL5, List.length_append, HLF.out.1]
                          have h6 : L6.length = L5.length + 1 + z.1.wn * 16 := by rw [hL6, List.length_append, List.length_append, digs_len, hz1]
                          have := HWN.out
                          omega⟩
                        have E1 : Kp ((if 256 ^ 1 ≤ z.1.d then L else L ++ digs z.1.d 1) = L1 ∧ numF false z.1.d 1 = false) := ⟨by rw [hL1]; exact rnum_ok (by have := HXO.out.d; omega)⟩
                        have E2 : Kp ((if 256 ^ 4 ≤ z.1.e then L1 else L1 ++ digs z.1.e 4) = M2 ∧ numF false z.1.e 4 = false) := ⟨by rw [hM2]; exact rnum_ok (by have := HXO.out.e; omega)⟩
                        have E3 : Kp ((if 256 ^ 1 ≤ z.1.s then M2 else M2 ++ digs z.1.s 1) = L3 ∧ numF false z.1.s 1 = false) := ⟨by rw [hL3]; exact rnum_ok (by have := HXO.out.s; omega)⟩
                        have E4 : Kp ((if 256 ^ 1 ≤ z.1.m then L3 else L3 ++ digs z.1.m 1) = L4 ∧ numF false z.1.m 1 = false) := ⟨by rw [hL4]; exact rnum_ok (by have := HXO.out.m; omega)⟩
                        have E5 : Kp (L5 = L4 ++ z.1.lf) := ⟨hL5⟩
                        have E6 : Kp (rsumsL L5 z.2.1 z.1.wn = L6 ∧ numF false z.1.wn 1 = false) := ⟨by rw [hL6]; exact rsums_ok' (by have := HWN.out; omega)⟩
                        have E7 : Kp (rsumsL L6 z.2.2 z.1.pn = L7 ∧ numF false z.1.pn 1 = false) := ⟨by rw [hL7]; exact rsums_ok' (by have := HWN.out; omega)⟩
                        have HT : Kp (O < T) := HOT
                        clear hL1 hM2 hL3 hL4 hL5 hL6 hL7 hz1 hz2
                        clear G1
                        have G1 := G1'
                        clear G1'
                        go_wp2_with fail
                        refine wp_region_pred (fun w' => RP w F O u (some ⟨b, off, none⟩) n c f (.slice ov on oc) L w' ∧ Blk w' T (.cells (ec z.1).toArray 32)) [0, 1, 2, 3, 4, 5, 6, 7, 8, 9, 10, 11, 12, 13, 14, 15, 16, 17, 18, 19] [20]
                          (fun ι w' v => match ι with
                            | 0 => v = routV (.slice ov on oc) false
                            | 1 => v = .pointer (some ⟨T, 0, none⟩)
                            | 2 => v = .int .i64 z.1.d
                            | 3 => v = .int .u64 z.1.d
                            | 5 | 6 | 10 | 15 => v = .pointer (some ⟨T, 1, none⟩)
                            | 7 => v = .int .u32 z.1.e
                            | 8 => v = .int .u64 z.1.e
                            | 11 => v = .pointer (some ⟨T, 2, none⟩)
                            | 12 => v = .int .u32 z.1.s
                            | 13 => v = .int .u64 z.1.s
                            | 16 => v = .pointer (some ⟨T, 3, none⟩)
                            | 17 => v = .int .i64 z.1.m
                            | 18 => v = .int .u64 z.1.m
                            | 4 => ∃ u, v = routV u false ∧ HoldsT w' u L1
                            | 9 => ∃ u, v = routV u false ∧ HoldsT w' u M2
                            | 14 => ∃ u, v = routV u false ∧ HoldsT w' u L3
                            | 19 => ∃ u, v = routV u false ∧ HoldsT w' u L4
                            | _ => v = .bool true)
                          [[], [], [(1, some 80)], [(2, some 81)], [(0, some 79), (3, some 82)], [], [(5, some 84)], [(6, some 85)], [(7, some 86)], [(4, some 83), (8, some 87)], [], [(10, some 89)], [(11, some 90)], [(12, some 91)], [(9, some 88), (13, some 92)], [], [(15, some 94)], [(16, some 95)], [(17, some 96)], [(14, some 93), (18, some 97)]]
                          [(0, some 79), (1, some 80), (2, some 81), (3, some 82), (4, some 83), (5, some 84), (6, some 85), (7, some 86), (8, some 87), (9, some 88), (10, some 89), (11, some 90), (12, some 91), (13, some 92), (14, some 93), (15, some 94), (16, some 95), (17, some 96), (18, some 97), (19, some 98)]
                          (by kernel_rfl) (by kernel_rfl) (by kernel_rfl) (by kernel_rfl) (by kernel_rfl) (by kernel_rfl) (by decide) (by decide) (fun w1 w2 h hb => ⟨h.1.more hb, h.2.keep hb⟩) ?_ ⟨G1.out.1.more (Below.refl _ _).drew, G1.out.2.keep (Below.refl _ _).drew⟩ ?_ ?_
                        · intro ι w1 w2 v h hb
                          by_cases h4 : ι = 4
                          · subst h4
                            exact (by obtain ⟨u, e, hg⟩ := h; exact ⟨u, e, hg.grow hb⟩)
                          by_cases h9 : ι = 9
                          · subst h9
                            exact (by obtain ⟨u, e, hg⟩ := h; exact ⟨u, e, hg.grow hb⟩)
                          by_cases h14 : ι = 14
                          · subst h14
                            exact (by obtain ⟨u, e, hg⟩ := h; exact ⟨u, e, hg.grow hb⟩)
                          by_cases h19 : ι = 19
                          · subst h19
                            exact (by obtain ⟨u, e, hg⟩ := h; exact ⟨u, e, hg.grow hb⟩)
                          match ι, h4, h9, h14, h19, h with
                          | 0, _, _, _, _, h => exact h
                          | 1, _, _, _, _, h => exact h
                          | 2, _, _, _, _, h => exact h
                          | 3, _, _, _, _, h => exact h
                          | 4, g, _, _, _, h => exact absurd rfl g
                          | 5, _, _, _, _, h => exact h
                          | 6, _, _, _, _, h => exact h
                          | 7, _, _, _, _, h => exact h
                          | 8, _, _, _, _, h => exact h
                          | 9, _, g, _, _, h => exact absurd rfl g
                          | 10, _, _, _, _, h => exact h
                          | 11, _, _, _, _, h => exact h
                          | 12, _, _, _, _, h => exact h
                          | 13, _, _, _, _, h => exact h
                          | 14, _, _, g, _, h => exact absurd rfl g
                          | 15, _, _, _, _, h => exact h
                          | 16, _, _, _, _, h => exact h
                          | 17, _, _, _, _, h => exact h
                          | 18, _, _, _, _, h => exact h
                          | 19, _, _, _, g, h => exact absurd rfl g
                          | _ + 20, _, _, _, _, h => exact h
                        · refine ⟨fun γ wx hS h => ?_, fun γ wx hS h => ?_, fun γ wx hS h => ?_, fun γ wx hS h => ?_, fun γ wx hS h => ?_, fun γ wx hS h => ?_, fun γ wx hS h => ?_, fun γ wx hS h => ?_, fun γ wx hS h => ?_, fun γ wx hS h => ?_, fun γ wx hS h => ?_, fun γ wx hS h => ?_, fun γ wx hS h => ?_, fun γ wx hS h => ?_, fun γ wx hS h => ?_, fun γ wx hS h => ?_, fun γ wx hS h => ?_, fun γ wx hS h => ?_, fun γ wx hS h => ?_, fun γ wx hS h => ?_, trivial⟩
                          · refine ⟨_, rfl, ?_⟩
                            refine predOp_val (v := routV (.slice ov on oc) false) ?_ ?_ ?_
                            · kernel_rfl
                            · exact exec_load_blk 112 (.tmp 4) rfl O rfl 112 #[.slice ov on oc, .bool false] (0, 0) _ hS.1.o Try.underlying112 rfl info122s
                            · rfl
                          · refine ⟨_, rfl, ?_⟩
                            refine predOp_val (v := .pointer (some ⟨T, 0, none⟩)) ?_ ?_ ?_
                            · kernel_rfl
                            · simp only [putE]
                              go_simp
                            · rfl
                          · have h1 := h
                            have e1 : γ 1 = .pointer (some ⟨T, 0, none⟩) := h1
                            have hcell : wx.cell? ⟨T, 0, none⟩ = some (.int .i64 z.1.d) := (hS.2.cell 0).trans (by rw [List.getElem?_toArray]; exact ec_0 _)
                            refine ⟨_, rfl, ?_⟩
                            refine predOp_val (v := .int .i64 z.1.d) ?_ ?_ ?_
                            · kernel_rfl
                            · simp only [putE, e1]
                              go_simp
                            · rfl
                          · have h2 := h
                            have e2 : γ 2 = .int .i64 z.1.d := h2
                            have hq := HK.out.1
                            refine ⟨_, rfl, ?_⟩
                            refine predOp_val (v := .int .u64 z.1.d) ?_ ?_ ?_
                            · kernel_rfl
                            · simp only [putE, e2]
                              go_simp
                            · rfl
                          · obtain ⟨h0, h3⟩ := h
                            have e0 : γ 0 = routV (.slice ov on oc) false := h0
                            have e3 : γ 3 = .int .u64 z.1.d := h3
                            refine ⟨_, rfl, Or.inl ⟨rfl, predRun_call (f := 46) (args := #[routV (.slice ov on oc) false, .int .u64 z.1.d, .int .i64 (1 : Nat)]) (by simp only [putE, e0, e3]; go_simp) ?_⟩⟩
                            exact (rnum_any _ (.slice ov on oc) L false z.1.d 1 wx hS.1.h.1 (Nat.le_refl _) HD.out.1.1 HD.out.1.2 (by decide) (by have := HL.out.1; omega)).mono fun r w9 ⟨v', h1, h2, h3, h4⟩ => ⟨_, h1, ⟨v', by rw [E1.out.2], by rw [← E1.out.1]; exact HoldsT.made hS.1.h.2 h2 h3 h4⟩, h4⟩
                          · refine ⟨_, rfl, ?_⟩
                            refine predOp_val (v := .pointer (some ⟨T, 1, none⟩)) ?_ ?_ ?_
                            · kernel_rfl
                            · simp only [putE]
                              go_simp
                            · rfl
                          · have h5 := h
                            have e5 : γ 5 = .pointer (some ⟨T, 1, none⟩) := h5
                            refine ⟨_, rfl, ?_⟩
                            refine predOp_val (v := .pointer (some ⟨T, 1, none⟩)) ?_ ?_ ?_
                            · kernel_rfl
                            · simp only [putE, e5]
                              go_simp
                            · rfl
                          · have h6 := h
                            have e6 : γ 6 = .pointer (some ⟨T, 1, none⟩) := h6
                            have hcell : wx.cell? ⟨T, 1, none⟩ = some (.int .u32 z.1.e) := (hS.2.cell 1).trans (by rw [List.getElem?_toArray]; exact ec_1 _)
                            refine ⟨_, rfl, ?_⟩
                            refine predOp_val (v := .int .u32 z.1.e) ?_ ?_ ?_
                            · kernel_rfl
                            · simp only [putE, e6]
                              go_simp
                            · rfl
                          · have h7 := h
                            have e7 : γ 7 = .int .u32 z.1.e := h7
                            have hq := HK.out.2.1
                            refine ⟨_, rfl, ?_⟩
                            refine predOp_val (v := .int .u64 z.1.e) ?_ ?_ ?_
                            · kernel_rfl
                            · simp only [putE, e7]
                              go_simp
                            · rfl
                          · obtain ⟨h4, h8⟩ := h
                            have p4 : ∃ u, (γ 4) = routV u false ∧ HoldsT wx u L1 := h4
                            have e8 : γ 8 = .int .u64 z.1.e := h8
                            obtain ⟨u9, e4, hu⟩ := p4
                            refine ⟨_, rfl, Or.inl ⟨rfl, predRun_call (f := 46) (args := #[routV u9 false, .int .u64 z.1.e, .int .i64 (4 : Nat)]) (by simp only [putE, e8]; go_simp) ?_⟩⟩
                            exact (rnum_any _ u9 L1 false z.1.e 4 wx hu.1 (Nat.le_refl _) HD.out.2.1.1 HD.out.2.1.2 (by decide) (by have := HL.out.2.1; omega)).mono fun r w9 ⟨v', h1, h2, h3, h4⟩ => ⟨_, h1, ⟨v', by rw [E2.out.2], by rw [← E2.out.1]; exact HoldsT.made hu.2 h2 h3 h4⟩, h4⟩
                          · refine ⟨_, rfl, ?_⟩
                            refine predOp_val (v := .pointer (some ⟨T, 1, none⟩)) ?_ ?_ ?_
                            · kernel_rfl
                            · simp only [putE]
                              go_simp
                            · rfl
                          · have h10 := h
                            have e10 : γ 10 = .pointer (some ⟨T, 1, none⟩) := h10
                            refine ⟨_, rfl, ?_⟩
                            refine predOp_val (v := .pointer (some ⟨T, 2, none⟩)) ?_ ?_ ?_
                            · kernel_rfl
                            · simp only [putE, e10]
                              go_simp
                            · rfl
                          · have h11 := h
                            have e11 : γ 11 = .pointer (some ⟨T, 2, none⟩) := h11
                            have hcell : wx.cell? ⟨T, 2, none⟩ = some (.int .u32 z.1.s) := (hS.2.cell 2).trans (by rw [List.getElem?_toArray]; exact ec_2 _)
                            refine ⟨_, rfl, ?_⟩
                            refine predOp_val (v := .int .u32 z.1.s) ?_ ?_ ?_
                            · kernel_rfl
                            · simp only [putE, e11]
                              go_simp
                            · rfl
                          · have h12 := h
                            have e12 : γ 12 = .int .u32 z.1.s := h12
                            have hq := HK.out.2.2.1
                            refine ⟨_, rfl, ?_⟩
                            refine predOp_val (v := .int .u64 z.1.s) ?_ ?_ ?_
                            · kernel_rfl
                            · simp only [putE, e12]
                              go_simp
                            · rfl
                          · obtain ⟨h9, h13⟩ := h
                            have p9 : ∃ u, (γ 9) = routV u false ∧ HoldsT wx u M2 := h9
                            have e13 : γ 13 = .int .u64 z.1.s := h13
                            obtain ⟨u9, e9, hu⟩ := p9
                            refine ⟨_, rfl, Or.inl ⟨rfl, predRun_call (f := 46) (args := #[routV u9 false, .int .u64 z.1.s, .int .i64 (1 : Nat)]) (by simp only [putE, e13]; go_simp) ?_⟩⟩
                            exact (rnum_any _ u9 M2 false z.1.s 1 wx hu.1 (Nat.le_refl _) HD.out.2.2.1.1 HD.out.2.2.1.2 (by decide) (by have := HL.out.2.2.1; omega)).mono fun r w9 ⟨v', h1, h2, h3, h4⟩ => ⟨_, h1, ⟨v', by rw [E3.out.2], by rw [← E3.out.1]; exact HoldsT.made hu.2 h2 h3 h4⟩, h4⟩
                          · refine ⟨_, rfl, ?_⟩
                            refine predOp_val (v := .pointer (some ⟨T, 1, none⟩)) ?_ ?_ ?_
                            · kernel_rfl
                            · simp only [putE]
                              go_simp
                            · rfl
                          · have h15 := h
                            have e15 : γ 15 = .pointer (some ⟨T, 1, none⟩) := h15
                            refine ⟨_, rfl, ?_⟩
                            refine predOp_val (v := .pointer (some ⟨T, 3, none⟩)) ?_ ?_ ?_
                            · kernel_rfl
                            · simp only [putE, e15]
                              go_simp
                            · rfl
                          · have h16 := h
                            have e16 : γ 16 = .pointer (some ⟨T, 3, none⟩) := h16
                            have hcell : wx.cell? ⟨T, 3, none⟩ = some (.int .i64 z.1.m) := (hS.2.cell 3).trans (by rw [List.getElem?_toArray]; exact ec_3 _)
                            refine ⟨_, rfl, ?_⟩
                            refine predOp_val (v := .int .i64 z.1.m) ?_ ?_ ?_
                            · kernel_rfl
                            · simp only [putE, e16]
                              go_simp
                            · rfl
                          · have h17 := h
                            have e17 : γ 17 = .int .i64 z.1.m := h17
                            have hq := HK.out.2.2.2
                            refine ⟨_, rfl, ?_⟩
                            refine predOp_val (v := .int .u64 z.1.m) ?_ ?_ ?_
                            · kernel_rfl
                            · simp only [putE, e17]
                              go_simp
                            · rfl
                          · obtain ⟨h14, h18⟩ := h
                            have p14 : ∃ u, (γ 14) = routV u false ∧ HoldsT wx u L3 := h14
                            have e18 : γ 18 = .int .u64 z.1.m := h18
                            obtain ⟨u9, e14, hu⟩ := p14
                            refine ⟨_, rfl, Or.inl ⟨rfl, predRun_call (f := 46) (args := #[routV u9 false, .int .u64 z.1.m, .int .i64 (1 : Nat)]) (by simp only [putE, e18]; go_simp) ?_⟩⟩
                            exact (rnum_any _ u9 L3 false z.1.m 1 wx hu.1 (Nat.le_refl _) HD.out.2.2.2.1 HD.out.2.2.2.2 (by decide) (by have := HL.out.2.2.2.1; omega)).mono fun r w9 ⟨v', h1, h2, h3, h4⟩ => ⟨_, h1, ⟨v', by rw [E4.out.2], by rw [← E4.out.1]; exact HoldsT.made hu.2 h2 h3 h4⟩, h4⟩
                        · intro γ w9 hS h
                          obtain ⟨u9, eu, hu⟩ := h.2.2.2.2.2.2.2.2.2.2.2.2.2.2.2.2.2.2.2
                          have G2 := Kp.mk hS
                          have H3' := Kp.mk hu
                          simp only [putE, Act.put, List.setIfInBounds_toArray, List.set_cons_zero, List.set_cons_succ]
                          rw [eu]
                          clear h hS hu eu
                          obtain ⟨pa, pn, pc, rfl, -⟩ := H3'.out.1.slice
                          refine wpOps_step rfl rfl ?_
                          refine wp_store_rowD rfl 112 (.tmp 4) (.tmp 98) rfl O #[.slice pa pn pc, .bool false] rfl rfl 112 _ G2.out.1.o info122s rfl (two_one _ _ _ _) ?_
                          have G3 : Kp (RP w F O u (some ⟨b, off, none⟩) n c f (.slice pa pn pc) L4 (w9.setRow O #[.slice pa pn pc, .bool false]) ∧ Blk (w9.setRow O #[.slice pa pn pc, .bool false]) T (.cells (ec z.1).toArray 32)) := ⟨G2.out.1.put H3'.out, (Turn.ofRow G2.out.1.o _).keep G2.out.2 (by have := HT.out; omega)⟩
                          clear G2 H3'
                          generalize w9.setRow O #[.slice pa pn pc, .bool false] = w10 at *
                          refine wpOps_done ?_
                          go_wp2_with fail
                          clear G1 E1 E2 E3 E4
                          have HZW := Kp.mk (And.intro (show HoldsS w10 (.slice z.1.wa z.1.wn z.1.wc) z.1.wn z.2.1 by rw [HZ9.out]; exact (G3.out.1.e.e i HLTN.out).hw) (show HoldsS w10 (.slice z.1.pa z.1.pn z.1.pc) z.1.pn z.2.2 by rw [HZ9.out]; exact (G3.out.1.e.e i HLTN.out).hp))
                          refine wp_region_pred (fun w' => RP w F O u (some ⟨b, off, none⟩) n c f (.slice pa pn pc) L4 w' ∧ Blk w' T (.cells (ec z.1).toArray 32) ∧ HoldsS w' (.slice z.1.wa z.1.wn z.1.wc) z.1.wn z.2.1 ∧ HoldsS w' (.slice z.1.pa z.1.pn z.1.pc) z.1.pn z.2.2) [0, 1, 2, 3, 4, 5, 6, 7, 8, 9, 10, 11, 12] [13]
                            (fun ι w' v => match ι with
                              | 0 => v = routV (.slice pa pn pc) false
                              | 1 | 2 | 5 | 9 => v = .pointer (some ⟨T, 4, none⟩)
                              | 3 => v = .slice (some ⟨T, 4, none⟩) 16 16
                              | 6 => v = .pointer (some ⟨T, 20, none⟩)
                              | 7 => v = .slice z.1.wa z.1.wn z.1.wc
                              | 10 => v = .pointer (some ⟨T, 21, none⟩)
                              | 11 => v = .slice z.1.pa z.1.pn z.1.pc
                              | 4 => ∃ u, v = routV u false ∧ HoldsT w' u L5
                              | 8 => ∃ u, v = routV u false ∧ HoldsT w' u L6
                              | 12 => ∃ u, v = routV u false ∧ HoldsT w' u L7
                              | _ => v = .bool true)
                            [[], [], [(1, some 100)], [(2, some 101)], [(0, some 99), (3, some 102)], [], [(5, some 104)], [(6, some 105)], [(4, some 103), (7, some 106)], [], [(9, some 108)], [(10, some 109)], [(8, some 107), (11, some 110)]]
                            [(0, some 99), (1, some 100), (2, some 101), (3, some 102), (4, some 103), (5, some 104), (6, some 105), (7, some 106), (8, some 107), (9, some 108), (10, some 109), (11, some 110), (12, some 111)]
                            (by kernel_rfl) (by kernel_rfl) (by kernel_rfl) (by kernel_rfl) (by kernel_rfl) (by kernel_rfl) (by decide) (by decide) (fun w1 w2 h hb => ⟨h.1.more hb, h.2.1.keep hb, h.2.2.1.keep hb, h.2.2.2.keep hb⟩) ?_ ⟨G3.out.1.more (Below.refl _ _).drew, G3.out.2.keep (Below.refl _ _).drew, HZW.out.1.keep (Below.refl _ _).drew, HZW.out.2.keep (Below.refl _ _).drew⟩ ?_ ?_
                          · intro ι w1 w2 v h hb
                            by_cases h4 : ι = 4
                            · subst h4
                              exact (by obtain ⟨u, e, hg⟩ := h; exact ⟨u, e, hg.grow hb⟩)
                            by_cases h8 : ι = 8
                            · subst h8
                              exact (by obtain ⟨u, e, hg⟩ := h; exact ⟨u, e, hg.grow hb⟩)
                            by_cases h12 : ι = 12
                            · subst h12
                              exact (by obtain ⟨u, e, hg⟩ := h; exact ⟨u, e, hg.grow hb⟩)
                            match ι, h4, h8, h12, h with
                            | 0, _, _, _, h => exact h
                            | 1, _, _, _, h => exact h
                            | 2, _, _, _, h => exact h
                            | 3, _, _, _, h => exact h
                            | 4, g, _, _, h => exact absurd rfl g
                            | 5, _, _, _, h => exact h
                            | 6, _, _, _, h => exact h
                            | 7, _, _, _, h => exact h
                            | 8, _, g, _, h => exact absurd rfl g
                            | 9, _, _, _, h => exact h
                            | 10, _, _, _, h => exact h
                            | 11, _, _, _, h => exact h
                            | 12, _, _, g, h => exact absurd rfl g
                            | _ + 13, _, _, _, h => exact h
                          · refine ⟨fun γ wx hS h => ?_, fun γ wx hS h => ?_, fun γ wx hS h => ?_, fun γ wx hS h => ?_, fun γ wx hS h => ?_, fun γ wx hS h => ?_, fun γ wx hS h => ?_, fun γ wx hS h => ?_, fun γ wx hS h => ?_, fun γ wx hS h => ?_, fun γ wx hS h => ?_, fun γ wx hS h => ?_, fun γ wx hS h => ?_, trivial⟩
                            · refine ⟨_, rfl, ?_⟩
                              refine predOp_val (v := routV (.slice pa pn pc) false) ?_ ?_ ?_
                              · kernel_rfl
                              · exact exec_load_blk 112 (.tmp 4) rfl O rfl 112 #[.slice pa pn pc, .bool false] (0, 0) _ hS.1.o Try.underlying112 rfl info122s
                              · rfl
                            · refine ⟨_, rfl, ?_⟩
                              refine predOp_val (v := .pointer (some ⟨T, 4, none⟩)) ?_ ?_ ?_
                              · kernel_rfl
                              · simp only [putE]
                                go_simp
                              · rfl
                            · have h1 := h
                              have e1 : γ 1 = .pointer (some ⟨T, 4, none⟩) := h1
                              refine ⟨_, rfl, ?_⟩
                              refine predOp_val (v := .pointer (some ⟨T, 4, none⟩)) ?_ ?_ ?_
                              · kernel_rfl
                              · simp only [putE, e1]
                                go_simp
                              · rfl
                            · have h2 := h
                              have e2 : γ 2 = .pointer (some ⟨T, 4, none⟩) := h2
                              refine ⟨_, rfl, ?_⟩
                              refine predOp_val (v := .slice (some ⟨T, 4, none⟩) 16 16) ?_ ?_ ?_
                              · kernel_rfl
                              · simp only [putE, e2]
                                go_simp
                              · rfl
                            · obtain ⟨h0, h3⟩ := h
                              have e0 : γ 0 = routV (.slice pa pn pc) false := h0
                              have e3 : γ 3 = .slice (some ⟨T, 4, none⟩) 16 16 := h3
                              refine ⟨_, rfl, Or.inl ⟨rfl, predRun_call (f := 48) (args := #[routV (.slice pa pn pc) false, .slice (some ⟨T, 4, none⟩) 16 16]) (by simp only [putE, e0, e3]; go_simp) ?_⟩⟩
                              exact (rraw_out _ (.slice pa pn pc) _ L4 z.1.lf false wx hS.1.h.1 (HoldsB.leaf hS.2.1 HLF.out.1 HLF.out.2 (ec_leaf z.1)) (by have := HL.out.2.2.2.2.1; have := HLF.out.1; omega)).mono fun r w9 ⟨v', h1, h2, h3, h4⟩ => ⟨_, h1, ⟨v', rfl, by rw [E5.out]; exact HoldsT.made hS.1.h.2 h2 h3 h4⟩, h4⟩
                            · refine ⟨_, rfl, ?_⟩
                              refine predOp_val (v := .pointer (some ⟨T, 4, none⟩)) ?_ ?_ ?_
                              · kernel_rfl
                              · simp only [putE]
                                go_simp
                              · rfl
                            · have h5 := h
                              have e5 : γ 5 = .pointer (some ⟨T, 4, none⟩) := h5
                              refine ⟨_, rfl, ?_⟩
                              refine predOp_val (v := .pointer (some ⟨T, 20, none⟩)) ?_ ?_ ?_
                              · kernel_rfl
                              · simp only [putE, e5]
                                go_simp
                              · rfl
                            · have h6 := h
                              have e6 : γ 6 = .pointer (some ⟨T, 20, none⟩) := h6
                              have hcell : wx.cell? ⟨T, 20, none⟩ = some (.slice z.1.wa z.1.wn z.1.wc) := (hS.2.1.cell 20).trans (by rw [List.getElem?_toArray]; exact ec_20 HLF.out.1)
                              refine ⟨_, rfl, ?_⟩
                              refine predOp_val (v := .slice z.1.wa z.1.wn z.1.wc) ?_ ?_ ?_
                              · kernel_rfl
                              · simp only [putE, e6]
                                go_simp
                              · rfl
                            · obtain ⟨h4, h7⟩ := h
                              have p4 : ∃ u, (γ 4) = routV u false ∧ HoldsT wx u L5 := h4
                              have e7 : γ 7 = .slice z.1.wa z.1.wn z.1.wc := h7
                              obtain ⟨u9, e4, hu⟩ := p4
                              refine ⟨_, rfl, Or.inl ⟨rfl, predRun_call (f := 49) (args := #[routV u9 false, .slice z.1.wa z.1.wn z.1.wc]) (by simp only [putE, e7]; go_simp) ?_⟩⟩
                              exact (rosums_any _ u9 (.slice z.1.wa z.1.wn z.1.wc) L5 _ _ false wx hu.1 hS.2.2.1 (by have := HWN.out; omega) (Nat.le_refl _) (by have := HL.out.2.2.2.2.2.1; omega)).mono fun r w9 ⟨v', h1, h2, h3, h4⟩ => ⟨_, h1, ⟨v', by rw [E6.out.2], by rw [← E6.out.1]; exact HoldsT.made hu.2 h2 h3 h4⟩, h4⟩
                            · refine ⟨_, rfl, ?_⟩
                              refine predOp_val (v := .pointer (some ⟨T, 4, none⟩)) ?_ ?_ ?_
                              · kernel_rfl
                              · simp only [putE]
                                go_simp
                              · rfl
                            · have h9 := h
                              have e9 : γ 9 = .pointer (some ⟨T, 4, none⟩) := h9
                              refine ⟨_, rfl, ?_⟩
                              refine predOp_val (v := .pointer (some ⟨T, 21, none⟩)) ?_ ?_ ?_
                              · kernel_rfl
                              · simp only [putE, e9]
                                go_simp
                              · rfl
                            · have h10 := h
                              have e10 : γ 10 = .pointer (some ⟨T, 21, none⟩) := h10
                              have hcell : wx.cell? ⟨T, 21, none⟩ = some (.slice z.1.pa z.1.pn z.1.pc) := (hS.2.1.cell 21).trans (by rw [List.getElem?_toArray]; exact ec_21 HLF.out.1)
                              refine ⟨_, rfl, ?_⟩
                              refine predOp_val (v := .slice z.1.pa z.1.pn z.1.pc) ?_ ?_ ?_
                              · kernel_rfl
                              · simp only [putE, e10]
                                go_simp
                              · rfl
                            · obtain ⟨h8, h11⟩ := h
                              have p8 : ∃ u, (γ 8) = routV u false ∧ HoldsT wx u L6 := h8
                              have e11 : γ 11 = .slice z.1.pa z.1.pn z.1.pc := h11
                              obtain ⟨u9, e8, hu⟩ := p8
                              refine ⟨_, rfl, Or.inl ⟨rfl, predRun_call (f := 49) (args := #[routV u9 false, .slice z.1.pa z.1.pn z.1.pc]) (by simp only [putE, e11]; go_simp) ?_⟩⟩
                              exact (rosums_any _ u9 (.slice z.1.pa z.1.pn z.1.pc) L6 _ _ false wx hu.1 hS.2.2.2 (by have := HWN.out; omega) (Nat.le_refl _) (by have := HL.out.2.2.2.2.2.2; omega)).mono fun r w9 ⟨v', h1, h2, h3, h4⟩ => ⟨_, h1, ⟨v', by rw [E7.out.2], by rw [← E7.out.1]; exact HoldsT.made hu.2 h2 h3 h4⟩, h4⟩
                          · intro γ w9 hS h
                            obtain ⟨u9, eu, hu⟩ := h.2.2.2.2.2.2.2.2.2.2.2.2
                            have G4 := Kp.mk hS.1
                            have H3' := Kp.mk hu
                            simp only [putE, Act.put, List.setIfInBounds_toArray, List.set_cons_zero, List.set_cons_succ]
                            rw [eu]
                            clear h hS hu eu
                            obtain ⟨qa, qn, qc, rfl, -⟩ := H3'.out.1.slice
                            refine wpOps_step rfl rfl ?_
                            refine wp_store_rowD rfl 112 (.tmp 4) (.tmp 111) rfl O #[.slice qa qn qc, .bool false] rfl rfl 112 _ G4.out.o info122s rfl (two_one _ _ _ _) ?_
                            have G5 : Kp (RP w F O u (some ⟨b, off, none⟩) n c f (.slice qa qn qc) L7 (w9.setRow O #[.slice qa qn qc, .bool false])) := ⟨G4.out.put H3'.out⟩
                            clear G4 H3'
                            generalize w9.setRow O #[.slice qa qn qc, .bool false] = w11 at *
                            refine wpOps_done ?_
                            go_wp2_with fail
                            exact ⟨⟨i + 1, _, _, _, by omega, by go_num, ⟨HOK1.out, HEN.out⟩, ⟨by rw [HL7.out]; exact G5.out⟩⟩, by simp [intOf]; omega⟩
        · obtain rfl : i = n := by omega
          have PE : Kp (updE f i = 0) := ⟨by rw [HE2.out, HOKI.out.1]; rfl⟩
          have PX : Kp (updX u f i = LB ++ entsB f i) := ⟨by rw [HX1.out, PE.out, HLB.out.2]; rfl⟩
          have q0 : wr.cell? ⟨O, 0, none⟩ = some (.slice ov on oc) := HST.out.o.cell 0
          go_wp2_with fail
          exact bodyPost_ret (results_tmp2U rfl _ _ _ _) rfl ⟨.slice ov on oc, by rw [PE.out]; rfl, by rw [PX.out]; exact HST.out.h, by rw [← HFe.out]; exact HST.out.below⟩
end Go.Proofs.Ytioeaknhcfkfcaa
