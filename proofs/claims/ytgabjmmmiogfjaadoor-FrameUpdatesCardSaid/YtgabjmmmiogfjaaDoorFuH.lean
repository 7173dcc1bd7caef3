/-
  Rows of entries; frame.PutUpdate.
-/
import Derived.Test.YtgabjmmmiogfjaaDoorFuG
namespace Go.Proofs.YtgabjmmmiogfjaaDoor
open Go.RowKit

theorem ec_one (x : EV) : (ec x).toArray.all (·.oneCell') = true := by
  refine all_oneCell_toArray fun v hv => ?_
  unfold ec at hv
  rw [List.mem_append, List.mem_append] at hv
  rcases hv with (hv | hv) | hv
  · simp at hv
    rcases hv with rfl | rfl | rfl | rfl <;> rfl
  · exact bv_one _ v hv
  · simp at hv
    rcases hv with rfl | rfl <;> rfl
/-- An entry, its way's and its path's bytes. -/
abbrev E3 := EV × List Int × List Int
/-- An entry in memory, its rows below M. -/
structure EIs (w : World) (M : Nat) (z : E3) : Prop where
  l : z.1.lf.length = 16
  b : Bytes z.1.lf
  e : 0 ≤ z.1.e ∧ z.1.e ≤ 4294967295
  s : 0 ≤ z.1.s ∧ z.1.s ≤ 4294967295
  wn : z.1.wn ≤ 20
  pn : z.1.pn ≤ 20
  hw : HoldsS w (.slice z.1.wa z.1.wn z.1.wc) z.1.wn z.2.1
  hp : HoldsS w (.slice z.1.pa z.1.pn z.1.pc) z.1.pn z.2.2
  wb : ∀ b, (Value.slice z.1.wa z.1.wn z.1.wc).ownBlock = some b → b < M
  pb : ∀ b, (Value.slice z.1.pa z.1.pn z.1.pc).ownBlock = some b → b < M
theorem EIs.keep {w w' : World} {M : Nat} {z : E3} (h : EIs w M z) (hb : Below w.heap.size w w') : EIs w' M z := ⟨h.l, h.b, h.e, h.s, h.wn, h.pn, h.hw.keep hb, h.hp.keep hb, h.wb, h.pb⟩
theorem EIs.step {w w' : World} {O M : Nat} {v v' : Value} {l l0 : List Int} {f f0 : Bool} {z : E3} (h : EIs w M z) (st : OutStep O v v' l f w w') (h0 : OutIs w O v l0 f0) (hM : M ≤ O) : EIs w' M z :=
  ⟨h.l, h.b, h.e, h.s, h.wn, h.pn, HoldsS.lowStep st h0 h.hw (fun b hb => by have := h.wb b hb; omega), HoldsS.lowStep st h0 h.hp (fun b hb => by have := h.pb b hb; omega), h.wb, h.pb⟩
/-- n entries stand at a. -/
structure HoldsE (w : World) (M : Nat) (a : Option Addr) (n : Nat) (f : Nat → E3) : Prop where
  e : ∀ i, i < n → EIs w M (f i)
  c : ∀ i, i < n → ∃ b off, a = some ⟨b, off, none⟩ ∧ b < M ∧ b < w.heap.size ∧ w.rangeAt b (off + i * 22) (ec (f i).1)
theorem rangeAt_keepU {w w' : World} {b o : Nat} {C : List Value} (hc : w.rangeAt b o C) (h : w'.heap[b]? = w.heap[b]?) : w'.rangeAt b o C := fun j v hv => (World.cell?_of_block (w := w) (a := ⟨b, o + j, none⟩) h).trans (hc j v hv)
theorem HoldsE.keep {w w' : World} {M n : Nat} {a : Option Addr} {f : Nat → E3} (h : HoldsE w M a n f) (hb : Below w.heap.size w w') : HoldsE w' M a n f :=
  ⟨fun i hi => (h.e i hi).keep hb, fun i hi => by
    obtain ⟨b, off, e1, e2, e3, e4⟩ := h.c i hi
    exact ⟨b, off, e1, e2, Nat.lt_of_lt_of_le e3 hb.size, rangeAt_keepU e4 (hb.block _ e3)⟩⟩
theorem HoldsE.step {w w' : World} {O M n : Nat} {v v' : Value} {l l0 : List Int} {g g0 : Bool} {a : Option Addr} {f : Nat → E3} (h : HoldsE w M a n f) (st : OutStep O v v' l g w w') (h0 : OutIs w O v l0 g0) (hM : M ≤ O) : HoldsE w' M a n f :=
  ⟨fun i hi => (h.e i hi).step st h0 hM, fun i hi => by
    obtain ⟨b, off, e1, e2, e3, e4⟩ := h.c i hi
    exact ⟨b, off, e1, e2, Nat.lt_of_lt_of_le e3 st.size, rangeAt_keepU e4 (st.other b e3 (by omega) (fun e => by have := (h0.row.lt b e).1; omega))⟩⟩
/-- The destination ahead of the k-th entry. -/
def lastD (f : Nat → E3) : Nat → Int
  | 0 => -1
  | k + 1 => (f k).1.d
def updOk (f : Nat → E3) (n : Nat) : Bool := (List.range n).all fun k => folB (lastD f k) (f k).1
theorem updOk_succ (f : Nat → E3) (n : Nat) : updOk f (n + 1) = (updOk f n && folB (lastD f n) (f n).1) := by simp [updOk, List.range_succ]
theorem updOk_le {f : Nat → E3} {i n : Nat} (h : updOk f n = true) (hi : i ≤ n) : updOk f i = true := by
  unfold updOk at h ⊢
  rw [List.all_eq_true] at h ⊢
  intro k hk
  exact h k (by simp at hk ⊢; omega)
def entsB (f : Nat → E3) (n : Nat) : List Int := (List.range n).flatMap fun i => entB (f i).1 (f i).2.1 (f i).2.2
theorem entsB_succ (f : Nat → E3) (n : Nat) : entsB f (n + 1) = entsB f n ++ entB (f n).1 (f n).2.1 (f n).2.2 := by simp [entsB, List.range_succ]
def fullN (u : Bool) : Int := if u then 1 else 0
def updE (f : Nat → E3) (n : Nat) : Int := if 8 < n then 8 else if updOk f n = true then 0 else 1
def updB (u : Bool) (f : Nat → E3) (n : Nat) : List Int := digs (fullN u) 1 ++ digs n 1 ++ entsB f n
def updX (u : Bool) (f : Nat → E3) (n : Nat) : List Int := if updE f n = 0 then updB u f n else []
def UpdPost (u : Bool) (f : Nat → E3) (n : Nat) (w : World) (r : Ending) (w' : World) : Prop :=
  ∃ v, r = .returned (.tuple #[v, .int .i64 (updE f n)]) ∧ w'.ownsRow w.heap.size 5 1 v (updX u f n).length (bv (updX u f n)) ∧ Bytes (updX u f n) ∧ Below w.heap.size w w'
theorem EV.ok_of {w : World} {M : Nat} {z : E3} {last : Int} (h : EIs w M z) (hf : folB last z.1 = true) : z.1.Ok := by
  unfold folB krB at hf
  simp only [Bool.and_eq_true, decide_eq_true_eq] at hf
  obtain ⟨⟨h1, h2⟩, ⟨h3, h4, h5, h6⟩, h7, h8⟩ := hf
  exact ⟨h1, ⟨h.e.1, h3⟩, ⟨h.s.1, h4⟩, ⟨h5, h6⟩, h7, h8, h.l, h.b⟩
theorem entB_len {w : World} {M : Nat} {z : E3} {last : Int} (h : EIs w M z) (hf : folB last z.1 = true) : (entB z.1 z.2.1 z.2.2).length ≤ 200 := by
  have ho := EV.ok_of h hf
  obtain ⟨_, _, _, e2, _⟩ := h.hw
  obtain ⟨_, _, _, e3, _⟩ := h.hp
  have h1 := ho.w
  have h2 := ho.p
  have h3 := ho.l
  unfold entB
  simp only [List.length_append, digs_len, h3, e2, e3]
  omega
theorem fnumber_any (u : Bool) (w : World) : Calls Tryd.prog 49 #[.bool u] w fun r w' => r = .returned (.int .u64 (fullN u)) ∧ w = w' := by
  go_enter Tryd.func49, Tryd.ntmps49
  cases u
  · go_wp2_with fail
    go_ret
    exact ⟨rfl, rfl⟩
  · go_wp2_with fail
    go_ret
    exact ⟨rfl, rfl⟩
/-- PutUpdate, on its way. -/
structure USt (w : World) (F O : Nat) (a : Option Addr) (n : Nat) (f : Nat → E3) (cs : Array Value) (v : Value) (L : List Int) (W : World) : Prop where
  o : OutIs W O v L false
  b : Blk W F (.cells cs 57)
  e : HoldsE W F a n f
  below : Below F w W
  fo : F < O
theorem USt.step {w W W' : World} {F O n : Nat} {a : Option Addr} {f : Nat → E3} {cs : Array Value} {v v' : Value} {L L' : List Int} (h : USt w F O a n f cs v L W) (hs : OutStep O v v' L' false W W') : USt w F O a n f cs v' L' W' := by
  have hn := h.o.ne h.fo
  refine ⟨hs.is, hs.keep h.b hn.1 hn.2, h.e.step hs h.o (by have := h.fo; omega), hs.belowNew h.below (by have := h.fo; omega) (fun k hk => ?_) (by have := h.b.lt; omega), h.fo⟩
  have := NewV.of h.o.row k hk
  have := h.fo
  omega
theorem USt.more {w W W' : World} {F O n : Nat} {a : Option Addr} {f : Nat → E3} {cs : Array Value} {v : Value} {L : List Int} (h : USt w F O a n f cs v L W) (hb : Below W.heap.size W W') : USt w F O a n f cs v L W' :=
  ⟨h.o.keep hb, h.b.keep hb, h.e.keep hb, h.below.trans (hb.mono (Nat.le_of_lt h.b.lt)), h.fo⟩
set_option maxRecDepth 100000 in
set_option maxHeartbeats 8000000 in
theorem putUpdate_any (u : Bool) (a : Option Addr) (n c : Nat) (f : Nat → E3) (w : World) (h : HoldsE w w.heap.size a n f) (hn : n ≤ 30) :
    Calls Tryd.prog 21 #[.agg #[.bool u, .slice a n c]] w (UpdPost u f n w) := by
  obtain ⟨F, hF⟩ : ∃ F, F = w.heap.size := ⟨_, rfl⟩
  have HFe := Kp.mk hF
  have HH : Kp (HoldsE w F a n f) := ⟨by rw [hF]; exact h⟩
  have hmax : n ≤ 9223372036854775807 := by omega
  have HE1 : Kp (updE f n = if 8 < n then 8 else if updOk f n = true then 0 else 1) := ⟨rfl⟩
  have HX1 : Kp (updX u f n = if updE f n = 0 then updB u f n else []) := ⟨rfl⟩
  clear h
  by_cases h8 : 8 < n
  · have h8' : (8 : Int) < n := by omega
    have PE : Kp (updE f n = 8) := ⟨by rw [HE1.out, if_pos h8]⟩
    have PX : Kp (updX u f n = []) := ⟨by rw [HX1.out, PE.out]; rfl⟩
    clear hF
    go_enter Tryd.func21, Tryd.ntmps21
    go_wp2_with fail
    exact bodyPost_ret (results_tmp2 rfl _ _ _ _) rfl ⟨.slice none 0 0, by rw [PE.out]; rfl, by rw [PX.out]; exact World.ownsRow_nil _ _ _ _, by rw [PX.out]; exact Bytes.nil, more (Below.refl _ _) _⟩
  · have h8' : ¬ (8 : Int) < n := by omega
    have HN8 : Kp (n ≤ 8) := ⟨by omega⟩
    have HE2 : Kp (updE f n = if updOk f n = true then 0 else 1) := ⟨by rw [HE1.out, if_neg h8]⟩
    have hw1 : IntKind.u64.wrap (n : Int) = n := u64_wrap (by omega)
    clear HE1 h8
    go_enter Tryd.func21, Tryd.ntmps21
    go_wp2_with fail
    refine (lay_any _).mono ?_
    rintro r w2 ⟨rfl, rfl⟩
    obtain ⟨O, hO⟩ : ∃ O, O = (w.alloc (.cells #[.bool u, .slice a n c] 57)).heap.size := ⟨_, rfl⟩
    have S0 : Kp (USt w F O a n f #[.bool u, .slice a n c] (.slice none 0 0) [] ((w.alloc (.cells #[.bool u, .slice a n c] 57)).alloc (outObj (.slice none 0 0) false))) := ⟨by rw [hO]; exact ⟨OutIs.laid _, (Blk.newAt _ hF).old _, (HH.out.keep (more (Below.refl _ _) _)).keep (more (Below.refl _ _) _), by rw [hF]; exact more (more (Below.refl _ _) _) _, by rw [hF]; simp⟩⟩
    rw [← hO, ← hF]
    clear hO hF h8'
    generalize (w.alloc (.cells #[.bool u, .slice a n c] 57)).alloc (outObj (.slice none 0 0) false) = W0 at *
    have p0 : W0.cell? ⟨F, 0, none⟩ = some (.bool u) := S0.out.b.cell 0
    have p1 : W0.cell? ⟨F, 1, none⟩ = some (.slice a n c) := S0.out.b.cell 1
    go_wp2_with fail
    refine (fnumber_any u W0).mono ?_
    rintro r w1 ⟨rfl, rfl⟩
    have hfu : 0 ≤ fullN u ∧ fullN u ≤ 1 := by unfold fullN; cases u <;> simp
    obtain ⟨fu, hfe⟩ : ∃ fu, fu = fullN u := ⟨_, rfl⟩
    have HFU := Kp.mk hfe
    rw [← hfe] at hfu ⊢
    clear hfe
    go_wp2_with fail
    refine (u8o_any O _ _ _ fu W0 S0.out.o (by omega) (by omega) (by simp)).mono ?_
    rintro r w1 ⟨rfl, v1, s1⟩
    obtain ⟨e1, e2⟩ := numL_ok (l := ([] : List Int)) (n := fu) (k := 1) (by omega)
    rw [e1, e2, List.nil_append] at s1
    have S1 := Kp.mk (S0.out.step s1)
    clear s1 e1 e2 p0 p1 S0
    have p1 : w1.cell? ⟨F, 1, none⟩ = some (.slice a n c) := S1.out.b.cell 1
    go_wp2_with fail
    refine (u8o_any O _ _ _ n w1 S1.out.o (by omega) (by have := HN8.out; omega) (by rw [digs_len]; omega)).mono ?_
    rintro r w2 ⟨rfl, v2, s2⟩
    obtain ⟨e1, e2⟩ := numL_ok (l := digs fu 1) (n := (n : Int)) (k := 1) (by have := HN8.out; omega)
    rw [e1, e2] at s2
    have S2 := Kp.mk (S1.out.step s2)
    obtain ⟨L2, hL2⟩ : ∃ L2, L2 = digs fu 1 ++ digs n 1 := ⟨_, rfl⟩
    have HL2 : Kp (L2.length = 2 ∧ updB u f n = L2 ++ entsB f n) := ⟨by rw [hL2]; simp [digs_len], by rw [hL2, HFU.out]; rfl⟩
    rw [← hL2] at S2
    clear s2 e1 e2 p1 S1 hL2
    have p1 : w2.cell? ⟨F, 1, none⟩ = some (.slice a n c) := S2.out.b.cell 1
    go_wp2_with fail
    clear p1
    go_loopw [5, 27] (fun lv ct wr => ∃ (i : Nat) (v : Value), i ≤ n ∧ ct = .int .i64 i ∧ lv = .int .i64 (lastD f i) ∧ Kp (updOk f i = true ∧ (entsB f i).length ≤ 200 * i) ∧ Kp (USt w F O a n f #[.bool u, .slice a n c] v (L2 ++ entsB f i) wr)) (fun _ ct _ => n - (intOf ct).toNat)
    case atStart => exact ⟨0, v2, by omega, rfl, rfl, ⟨rfl, by simp [entsB]⟩, ⟨by simp only [entsB, List.range_zero, List.flatMap_nil, List.append_nil]; exact S2.out⟩⟩
    case round =>
      obtain ⟨i, v, hi, rfl, rfl, HOKI, HST⟩ := hrel
      by_cases hlt : i < n
      · have HEI := Kp.mk (HST.out.e.e i hlt)
        obtain ⟨b, off, rfl, hbF, hbl, hrg⟩ := HST.out.e.c i hlt
        have HRG := Kp.mk hrg
        have HSUC := Kp.mk (And.intro (updOk_succ f i) (entsB_succ f i))
        have HLAST : Kp (lastD f (i + 1) = (f i).1.d) := ⟨rfl⟩
        obtain ⟨z, hz⟩ : ∃ z, z = f i := ⟨_, rfl⟩
        have HZ9 := Kp.mk hz
        rw [← hz] at HRG HEI HSUC HLAST
        have HIX := Kp.mk (info115s HEI.out.l)
        clear hrg hz hbF hbl
        have HSZ : Kp ((ec z.1).toArray.size = 22) := ⟨by rw [List.size_toArray]; exact ec_len HEI.out.l⟩
        have HLEN22 : Kp ((Tryd.prog.info? 115).map (·.size) = some (ec z.1).length) := ⟨by have := HIX.out; simpa using this⟩
        go_wp2_with (first
          | (refine wpList_load_mid rfl 115 (.tmp 29) rfl b (off + i * 22) rfl (ec z.1) _ HRG.out Tryd.underlying115 rfl HLEN22.out ?_)
          | (refine wpList_store_row rfl 115 (.tmp 7) (.tmp 30) rfl wr.heap.size (ec z.1).toArray rfl rfl 115 _ (Blk.newAt _ rfl) HIX.out (by rw [HSZ.out]; rfl) (ec_one z.1) ?_; refine wpl_world (fun W => USt w F O (some ⟨b, off, none⟩) n f #[.bool u, .slice (some ⟨b, off, none⟩) n c] v (L2 ++ entsB f i) W ∧ Blk W wr.heap.size (.cells (ec z.1).toArray 115) ∧ EIs W F z) ⟨by rw [World.setRow_alloc_new]; exact HST.out.more (more (Below.refl _ _) _), by rw [World.setRow_alloc_new]; exact Blk.new _ _, by rw [World.setRow_alloc_new]; exact HEI.out.keep (more (Below.refl _ _) _)⟩ ?_; rintro W3 h3; have S3 := Kp.mk h3; clear h3)
          | (refine wpList_load_row rfl 115 (.tmp 7) rfl wr.heap.size rfl 115 (ec z.1).toArray (0, 0) _ S3.out.2.1 Tryd.underlying115 rfl HIX.out ?_))
        obtain ⟨K, hK⟩ : ∃ K, K = wr.heap.size := ⟨_, rfl⟩
        rw [← hK] at S3 ⊢
        clear hK HST HEI HRG
        refine (follows_any (lastD f i) z.1 _ S3.out.2.2.l (by have := S3.out.2.2.wn; omega) (by have := S3.out.2.2.pn; omega)).mono ?_
        rintro r w4 ⟨rfl, hb⟩
        have S4 : Kp (USt w F O (some ⟨b, off, none⟩) n f #[.bool u, .slice (some ⟨b, off, none⟩) n c] v (L2 ++ entsB f i) w4 ∧ Blk w4 K (.cells (ec z.1).toArray 115) ∧ EIs w4 F z) := ⟨S3.out.1.more hb, S3.out.2.1.keep hb, S3.out.2.2.keep hb⟩
        clear hb S3
        cases hf : folB (lastD f i) z.1 with
        | false =>
          have PO : Kp (updOk f n = false) := ⟨by
            cases ho : updOk f n with
            | false => rfl
            | true =>
              have h9 := updOk_le (i := i + 1) ho (by omega)
              rw [HSUC.out.1, hf] at h9
              simp at h9⟩
          have PE : Kp (updE f n = 1) := ⟨by rw [HE2.out, PO.out]; rfl⟩
          have PX : Kp (updX u f n = []) := ⟨by rw [HX1.out, PE.out]; rfl⟩
          clear hf
          go_wp2_with fail
          exact bodyPost_ret (results_tmp2 rfl _ _ _ _) rfl ⟨.slice none 0 0, by rw [PE.out]; rfl, by rw [PX.out]; exact World.ownsRow_nil _ _ _ _, by rw [PX.out]; exact Bytes.nil, by rw [← HFe.out]; exact S4.out.1.below⟩
        | true =>
          have HOK1 : Kp (updOk f (i + 1) = true) := ⟨by rw [HSUC.out.1, HOKI.out.1, hf]; rfl⟩
          have HXO := Kp.mk (EV.ok_of S4.out.2.2 hf)
          have HEL := Kp.mk (entB_len S4.out.2.2 hf)
          clear hf
          have p0 : w4.cell? ⟨K, 0, none⟩ = some (.int .i64 z.1.d) := S4.out.2.1.cell 0
          go_wp2_with (refine wpList_load_row rfl 115 (.tmp 7) rfl K rfl 115 (ec z.1).toArray (0, 0) _ S4.out.2.1 Tryd.underlying115 rfl HIX.out ?_)
          refine (putEntry_any O v (L2 ++ entsB f i) z.1 z.2.1 z.2.2 w4 S4.out.1.o HXO.out S4.out.2.2.hw S4.out.2.2.hp (fun b hb => by have := S4.out.2.2.wb b hb; have := S4.out.1.fo; omega) (fun b hb => by have := S4.out.2.2.pb b hb; have := S4.out.1.fo; omega) (by rw [List.length_append, HL2.out.1]; have := HOKI.out.2; have := HN8.out; omega)).mono ?_
          rintro r w5 ⟨rfl, v5, s5⟩
          rw [List.append_assoc, show entB z.1 z.2.1 z.2.2 = entB (f i).1 (f i).2.1 (f i).2.2 by rw [HZ9.out], ← entsB_succ] at s5
          have S5 := Kp.mk (S4.out.1.step s5)
          have HEN : Kp ((entsB f (i + 1)).length ≤ 200 * (i + 1)) := ⟨by rw [entsB_succ, List.length_append, ← HZ9.out]; have := HOKI.out.2; have := HEL.out; omega⟩
          clear s5 p0
          go_wp2_with fail
          exact ⟨⟨i + 1, v5, by omega, by go_num, by rw [HLAST.out], ⟨HOK1.out, HEN.out⟩, S5⟩, by simp [intOf]; omega⟩
      · obtain rfl : i = n := by omega
        have PE : Kp (updE f i = 0) := ⟨by rw [HE2.out, HOKI.out.1]; rfl⟩
        have PX : Kp (updX u f i = L2 ++ entsB f i) := ⟨by rw [HX1.out, PE.out, HL2.out.2]; rfl⟩
        have HLB : Kp ((L2 ++ entsB f i).length ≤ 10000) := ⟨by rw [List.length_append, HL2.out.1]; have := HOKI.out.2; have := HN8.out; omega⟩
        go_wp2_with fail
        refine (bytes_any O v (L2 ++ entsB f i) false wr HST.out.o (by have := HLB.out; omega)).mono ?_
        rintro r w8 ⟨v8, rfl, h8, hb⟩
        have HB8 : Kp (Below F w w8) := ⟨HST.out.below.trans (hb.mono (Nat.le_of_lt HST.out.b.lt))⟩
        have HO8 : Kp (w8.ownsRow F 5 1 v8 (L2 ++ entsB f i).length (bv (L2 ++ entsB f i))) := ⟨ownsRow_base h8 (Nat.le_of_lt HST.out.b.lt)⟩
        have HY : Kp (Bytes (L2 ++ entsB f i)) := ⟨HST.out.o.bytes⟩
        clear h8 hb
        go_wp2_with fail
        exact bodyPost_ret (results_tmp2 rfl _ _ _ _) rfl ⟨v8, by rw [PE.out]; rfl, by rw [PX.out, ← HFe.out]; exact HO8.out, by rw [PX.out]; exact HY.out, by rw [← HFe.out]; exact HB8.out⟩
end Go.Proofs.YtgabjmmmiogfjaaDoor
