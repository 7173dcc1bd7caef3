/-
  The piece of any bytes: the program's.
-/
import Derived.Test.YtlgcpfeaecpocaaPcR
import Derived.Test.YtlgcpfeaecpocaaRel
namespace Go.Proofs.Ytlgcpfeaecpocaa
open Go.RowKit

def gN1 (B : List Int) : Int := numOf (rawP B 0 0 4)
def gA1 (B : List Int) : Nat := rawA B 0 0 4
def gE1 (B : List Int) : Int := rawE B 0 0 4
def gN2 (B : List Int) : Int := numOf (rawP B (gA1 B) (gE1 B) 1)
def gA2 (B : List Int) : Nat := rawA B (gA1 B) (gE1 B) 1
def gE2 (B : List Int) : Int := rawE B (gA1 B) (gE1 B) 1
def gN3 (B : List Int) : Int := numOf (rawP B (gA2 B) (gE2 B) 1)
def gA3 (B : List Int) : Nat := rawA B (gA2 B) (gE2 B) 1
def gE3 (B : List Int) : Int := rawE B (gA2 B) (gE2 B) 1
def gP (B : List Int) : List Int := rblobP B (gA3 B) (gE3 B) 4096
def gA4 (B : List Int) : Nat := rblobA B (gA3 B) (gE3 B) 4096
def gE4 (B : List Int) : Int := rblobE B (gA3 B) (gE3 B) 4096
def gEnd (B : List Int) : Int := if 0 < rleft B (gA4 B) (gE4 B) then 10 else gE4 B
def gPV (B : List Int) (a : Option Addr) (c : Nat) : PV := ⟨gN1 B, gN2 B, gN3 B, a, (gP B).length, c⟩
def gR (B : List Int) : Bool := rightB (gPV B none 0)
def getE (B : List Int) : Int := if gEnd B ≠ 0 then gEnd B else if gR B = true then 0 else 10
def gT (B : List Int) : List Int := if getE B = 0 then gP B else []
def gX (B : List Int) (n : Int) : Int := if getE B = 0 then n else 0
def GetPost (B : List Int) (w : World) (r : Ending) (w' : World) : Prop :=
  ∃ a c, r = .returned (.tuple #[.agg #[.int .u32 (gX B (gN1 B)), .int .i64 (gX B (gN2 B)), .int .i64 (gX B (gN3 B)), .slice a (gT B).length c], .int .i64 (getE B)]) ∧ HoldsB w' w'.heap.size (.slice a (gT B).length c) (gT B) ∧ Below w.heap.size w w'
theorem numOf_lt4 {l : List Int} (h : l.length ≤ 4) (hb : Bytes l) : 0 ≤ numOf l ∧ numOf l ≤ 4294967295 := by
  match l, h with
  | [], _ => decide
  | [a], _ =>
    have := hb a (by simp)
    simp only [numOf, List.foldl_cons, List.foldl_nil]
    omega
  | [a, b], _ =>
    have := hb a (by simp)
    have := hb b (by simp)
    simp only [numOf, List.foldl_cons, List.foldl_nil]
    omega
  | [a, b, c], _ =>
    have := hb a (by simp)
    have := hb b (by simp)
    have := hb c (by simp)
    simp only [numOf, List.foldl_cons, List.foldl_nil]
    omega
  | [a, b, c, d], _ =>
    have := hb a (by simp)
    have := hb b (by simp)
    have := hb c (by simp)
    have := hb d (by simp)
    simp only [numOf, List.foldl_cons, List.foldl_nil]
    omega
theorem gN1_lt {B : List Int} (hb : Bytes B) : 0 ≤ gN1 B ∧ gN1 B ≤ 4294967295 := numOf_lt4 (rawP_len _ _ _ _) (rawP_bytes hb _ _ _)
theorem gN2_lt {B : List Int} (hb : Bytes B) : 0 ≤ gN2 B ∧ gN2 B ≤ 255 := numOf_one (rawP_len _ _ _ _) (rawP_bytes hb _ _ _)
theorem gN3_lt {B : List Int} (hb : Bytes B) : 0 ≤ gN3 B ∧ gN3 B ≤ 255 := numOf_one (rawP_len _ _ _ _) (rawP_bytes hb _ _ _)
theorem gEnd_is {l B : List Int} (hr : Rel l (gE4 B) B (gA4 B)) : endE l (gE4 B) = gEnd B := by
  unfold endE gEnd
  rw [hr.left]
  by_cases h : 0 < rleft B (gA4 B) (gE4 B)
  · rw [if_pos h, if_pos h]
    have : gE4 B = 0 := by
      false_or_by_contra
      rename_i hne
      unfold rleft at h
      rw [if_neg hne] at h
      omega
    rw [this]
    rfl
  · rw [if_neg h, if_neg h]
theorem results_row_tmp {P : Program} {fn : Func} {p q : Tmp} {ty : TypeId} (h : fn.results = #[.cell p ty, .tmp q]) (tmps : Array Value) (w : World) (g : Nat) (t : TypeId) (cs : Array Value) (fr : Nat × Nat) (d : TypeDesc) (u : Value)
    (hp : tmps.getD p undef = .pointer (some ⟨g, 0, none⟩)) (hq : tmps.getD q undef = u) (hg : w.heap[g]? = some (.cells cs t fr))
    (hu : P.underlying ty = some d) (hd : (match d with | .struct _ | .array _ _ => true | _ => false) = true) (hi : (P.info? ty).map (·.size) = some cs.size) :
    (results fn tmps).run P w = .ok (.tuple #[.agg cs, u]) w := by
  have hp' : tmps[p]?.getD undef = .pointer (some ⟨g, 0, none⟩) := by simpa using hp
  have hq' : tmps[q]?.getD undef = u := by simpa using hq
  simp [results, h, hp', hq', asAddr, run_loadVar_row w g t ty cs fr d hg hu hd hi]
theorem there4 {w : World} {F : Nat} {x0 x1 x2 x3 : Value} {t : TypeId} (h : Blk w F (.cells #[x0, x1, x2, x3] t)) : w.there F 0 4 := fun j hj => ⟨match j, hj with
  | 0, _ => by rw [h.cell 0]; rfl
  | 1, _ => by rw [h.cell 1]; rfl
  | 2, _ => by rw [h.cell 2]; rfl
  | 3, _ => by rw [h.cell 3]; rfl
  | j + 4, hj => absurd hj (by omega), h.frozen _⟩
theorem turn4 {w : World} {F : Nat} {x0 x1 x2 x3 : Value} {t : TypeId} (h : Blk w F (.cells #[x0, x1, x2, x3] t)) (y0 y1 y2 y3 : Value) : Turn F (.cells #[y0, y1, y2, y3] t) w (w.setCells F 0 [y0, y1, y2, y3]) := ((((Turn.same h).set 0 _).set 1 _).set 2 _).set 3 _
theorem one4 (n1 n2 n3 : Int) (a : Option Addr) (n c : Nat) : (#[.int .u32 n1, .int .i64 n2, .int .i64 n3, .slice a n c] : Array Value).all (·.oneCell') = true :=
  all_oneCell_toArray (cs := [.int .u32 n1, .int .i64 n2, .int .i64 n3, .slice a n c]) (by intro v hv; simp only [List.mem_cons, List.not_mem_nil, or_false] at hv; rcases hv with rfl | rfl | rfl | rfl <;> rfl)
/-- The program's Get, on its way: its result stands in F, its In in I. -/
structure GSt (w : World) (F I : Nat) (l : List Int) (e : Int) (W : World) : Prop where
  i : InIs W I I l e
  b : Blk W F (.cells #[.int .u32 0, .int .i64 0, .int .i64 0, .slice none 0 0] 30)
  below : Below F w W
  fi : F < I
theorem InIs.lt' {w : World} {M I : Nat} {l : List Int} {e : Int} (h : InIs w M I l e) : I < w.heap.size := by obtain ⟨_, ⟨v, _, hb⟩, _⟩ := h; exact hb.lt
theorem GSt.step {w W W' : World} {F I : Nat} {l l' : List Int} {e e' : Int} (h : GSt w F I l e W) (hs : InStep I I l' e' W W') : GSt w F I l' e' W' := by
  obtain ⟨h1, o, ho⟩ := hs
  have := h.fi
  exact ⟨h1, ho.keep h.b (by omega), h.below.trans (ho.below (by omega) (by have := h.b.lt; omega)), h.fi⟩
set_option maxRecDepth 100000 in
set_option maxHeartbeats 4000000 in
theorem get_any (M : Nat) (v : Value) (B : List Int) (w : World) (h : HoldsB w M v B) (hr : B.length ≤ 140737488351232) : Calls Try.prog 12 #[v] w (GetPost B w) := by
  have HBB := Kp.mk h.bytes
  have H := Kp.mk h
  have HL := Kp.mk hr
  obtain ⟨va, vn, vc, rfl, -⟩ := h.slice
  clear h hr
  go_enter Try.func12, Try.ntmps12
  go_wp2_with fail
  obtain ⟨F, hF⟩ : ∃ F, F = w.heap.size := ⟨_, rfl⟩
  have HFe := Kp.mk hF
  refine (takeI_any M _ B _ (H.out.alloc _) HL.out).mono ?_
  rintro r w1 ⟨I, rfl, hI, hi, hb⟩
  have S0 : Kp (GSt w F I B 0 w1) := ⟨⟨hi, (Blk.newAt _ hF).keep hb, by rw [hF]; exact (more (Below.refl _ _) _).trans (hb.mono (by simp)), by simp at hI; omega⟩⟩
  have R0 : Kp (Rel B 0 B 0) := ⟨⟨fun _ => rfl, fun h => absurd rfl h⟩⟩
  rw [← hF]
  clear hI hi hb hF
  go_wp2_with fail
  refine (u32_any I I B 0 w1 S0.out.i).mono ?_
  rintro r w2 ⟨rfl, s1⟩
  obtain ⟨q1, q2, q3⟩ := R0.out.next 4
  rw [q1, show numOf (rawP B 0 0 4) = gN1 B from rfl]
  rw [q2, show rawE B 0 0 4 = gE1 B from rfl] at s1
  rw [show rawE B 0 0 4 = gE1 B from rfl, show rawA B 0 0 4 = gA1 B from rfl] at q3
  have S1 := Kp.mk (S0.out.step s1)
  have R1 := Kp.mk q3
  have B1 := gN1_lt HBB.out
  have k1 : IntKind.u32.wrap (gN1 B) = gN1 B := by simp [IntKind.wrap, IntKind.bits, IntKind.signed]; omega
  clear s1 q1 q2 q3 R0 S0
  obtain ⟨n1, hn1⟩ : ∃ n1, n1 = gN1 B := ⟨_, rfl⟩
  have HN1 := Kp.mk hn1
  rw [← hn1] at k1 B1 ⊢
  clear hn1
  generalize nextL B 0 4 = l1 at *
  go_wp2_with fail
  refine (u8_any I I l1 _ w2 S1.out.i).mono ?_
  rintro r w3 ⟨rfl, s1⟩
  obtain ⟨q1, q2, q3⟩ := R1.out.next 1
  rw [q1, show numOf (rawP B (gA1 B) (gE1 B) 1) = gN2 B from rfl]
  rw [q2, show rawE B (gA1 B) (gE1 B) 1 = gE2 B from rfl] at s1
  rw [show rawE B (gA1 B) (gE1 B) 1 = gE2 B from rfl, show rawA B (gA1 B) (gE1 B) 1 = gA2 B from rfl] at q3
  have S2 := Kp.mk (S1.out.step s1)
  have R2 := Kp.mk q3
  have B2 := gN2_lt HBB.out
  have k2 : IntKind.i64.wrap (gN2 B) = gN2 B := IntWalk.i64_in _ (by omega)
  clear s1 q1 q2 q3 R1 S1
  obtain ⟨n2, hn2⟩ : ∃ n2, n2 = gN2 B := ⟨_, rfl⟩
  have HN2 := Kp.mk hn2
  rw [← hn2] at k2 B2 ⊢
  clear hn2
  generalize nextL l1 (gE1 B) 1 = l2 at *
  go_wp2_with fail
  refine (u8_any I I l2 _ w3 S2.out.i).mono ?_
  rintro r w4 ⟨rfl, s1⟩
  obtain ⟨q1, q2, q3⟩ := R2.out.next 1
  rw [q1, show numOf (rawP B (gA2 B) (gE2 B) 1) = gN3 B from rfl]
  rw [q2, show rawE B (gA2 B) (gE2 B) 1 = gE3 B from rfl] at s1
  rw [show rawE B (gA2 B) (gE2 B) 1 = gE3 B from rfl, show rawA B (gA2 B) (gE2 B) 1 = gA3 B from rfl] at q3
  have S3 := Kp.mk (S2.out.step s1)
  have R3 := Kp.mk q3
  have B3 := gN3_lt HBB.out
  have k3 : IntKind.i64.wrap (gN3 B) = gN3 B := IntWalk.i64_in _ (by omega)
  clear s1 q1 q2 q3 R2 S2
  obtain ⟨n3, hn3⟩ : ∃ n3, n3 = gN3 B := ⟨_, rfl⟩
  have HN3 := Kp.mk hn3
  rw [← hn3] at k3 B3 ⊢
  clear hn3
  have HBL : Kp (Bytes (nextL l2 (gE2 B) 1)) := ⟨by
    obtain ⟨_, ⟨u, hu, _⟩, _⟩ := S3.out.i
    exact hu.bytes⟩
  generalize nextL l2 (gE2 B) 1 = l3 at *
  go_wp2_with fail
  refine (blob_any I I l3 _ 4096 w4 S3.out.i (by decide) (by decide)).mono ?_
  rintro r w5 ⟨v4, rfl, ⟨hy, ho⟩, s1⟩
  obtain ⟨q1, q2, q3⟩ := R3.out.blob HBL.out HBB.out 4096
  rw [q1, show rblobP B (gA3 B) (gE3 B) 4096 = gP B from rfl] at ho hy
  rw [q2, show rblobE B (gA3 B) (gE3 B) 4096 = gE4 B from rfl] at s1
  rw [show rblobE B (gA3 B) (gE3 B) 4096 = gE4 B from rfl, show rblobA B (gA3 B) (gE3 B) 4096 = gA4 B from rfl] at q3
  have S4 := Kp.mk (S3.out.step s1)
  have R4 := Kp.mk q3
  have HO4 := Kp.mk ho
  have HI4 := Kp.mk S3.out.i.lt'
  have HPB := Kp.mk hy
  obtain ⟨a4, m4, c4, rfl⟩ := row_shape ho
  have hm4 : m4 = (gP B).length := by
    rcases ho.2 with ⟨e, h0⟩ | ⟨g, cap, cur, e, _⟩
    · simp only [Value.slice.injEq] at e; omega
    · simp only [Value.slice.injEq] at e; omega
  subst hm4
  clear s1 q1 q2 q3 R3 S3 ho hy
  generalize blobL l3 (gE3 B) 4096 = l4 at *
  go_wp2_with fail
  obtain ⟨K, hK⟩ : ∃ K, K = w5.heap.size := ⟨_, rfl⟩
  have HKB : Kp (Blk (w5.alloc (.cells #[.int .u32 n1, .int .i64 n2, .int .i64 n3, .slice a4 (gP B).length c4] 30)) K (.cells #[.int .u32 n1, .int .i64 n2, .int .i64 n3, .slice a4 (gP B).length c4] 30)) := ⟨Blk.newAt _ hK⟩
  have HIK : Kp (I < K) := ⟨by rw [hK]; exact S4.out.i.lt'⟩
  have HOA : Kp ((w5.alloc (.cells #[.int .u32 n1, .int .i64 n2, .int .i64 n3, .slice a4 (gP B).length c4] 30)).ownsRow w4.heap.size 5 1 (.slice a4 (gP B).length c4) (gP B).length (bv (gP B))) := ⟨ownsRow_below HO4.out (more (Below.refl _ _) _)⟩
  have SA : Kp (GSt w F I l4 (gE4 B) (w5.alloc (.cells #[.int .u32 n1, .int .i64 n2, .int .i64 n3, .slice a4 (gP B).length c4] 30))) := ⟨⟨S4.out.i.keep (more (Below.refl _ _) _), S4.out.b.old _, S4.out.below.alloc (by have := S4.out.b.lt; omega) _, S4.out.fi⟩⟩
  rw [← hK]
  clear hK S4 HO4
  refine (endI_any I I l4 (gE4 B) _ SA.out.i).mono ?_
  rintro r w7 ⟨rfl, l', s1⟩
  rw [gEnd_is R4.out] at s1 ⊢
  have HF7 : Kp (GSt w F I l' (gEnd B) w7) := ⟨SA.out.step s1⟩
  obtain ⟨o7, ho7⟩ := s1.turn
  have HK7 : Kp (Blk w7 K (.cells #[.int .u32 n1, .int .i64 n2, .int .i64 n3, .slice a4 (gP B).length c4] 30)) := ⟨ho7.keep HKB.out (by have := HIK.out; omega)⟩
  have HO7 : Kp (w7.ownsRow w4.heap.size 5 1 (.slice a4 (gP B).length c4) (gP B).length (bv (gP B))) := ⟨ownsRow_turn HOA.out ho7 HI4.out⟩
  clear s1 ho7 HKB SA HOA R4
  by_cases he : gEnd B = 0
  · have HE0 := Kp.mk he
    rw [he]
    clear he
    go_wp2_with (refine wpList_load_row rfl 30 (.tmp 5) rfl K rfl 30 #[.int .u32 n1, .int .i64 n2, .int .i64 n3, .slice a4 (gP B).length c4] (0, 0) _ HK7.out Try.underlying30 rfl info30s ?_)
    refine (right_any ⟨n1, n2, n3, a4, (gP B).length, c4⟩ w7).mono ?_
    rintro r w8 ⟨rfl, hb⟩
    have hgr : rightB ⟨n1, n2, n3, a4, (gP B).length, c4⟩ = gR B := by rw [HN2.out, HN3.out]; rfl
    rw [hgr]
    have HF8 : Kp (Blk w8 F RZ ∧ Below F w w8) := ⟨HF7.out.b.keep hb, HF7.out.below.trans (hb.mono (by have := HF7.out.b.lt; omega))⟩
    have HK8 : Kp (Blk w8 K (.cells #[.int .u32 n1, .int .i64 n2, .int .i64 n3, .slice a4 (gP B).length c4] 30)) := ⟨HK7.out.keep hb⟩
    have HO8 : Kp (w8.ownsRow w4.heap.size 5 1 (.slice a4 (gP B).length c4) (gP B).length (bv (gP B))) := ⟨ownsRow_below HO7.out hb⟩
    have HFK : Kp (F < w4.heap.size) := ⟨by have := HF7.out.fi; have := HI4.out; omega⟩
    clear hb hgr HF7 HK7 HO7
    have HTH := Kp.mk (there4 HF8.out.1)
    cases hrr : gR B with
    | true =>
      have HRR := Kp.mk hrr
      have HTU := Kp.mk (turn4 HF8.out.1 (.int .u32 n1) (.int .i64 n2) (.int .i64 n3) (.slice a4 (gP B).length c4))
      have H1C : Kp ((#[.int .u32 n1, .int .i64 n2, .int .i64 n3, .slice a4 (gP B).length c4] : Array Value).all (·.oneCell') = true) := ⟨one4 _ _ _ _ _ _⟩
      clear hrr
      go_wp2_with (first
        | (refine wpList_load_row rfl 30 (.tmp 5) rfl K rfl 30 #[.int .u32 n1, .int .i64 n2, .int .i64 n3, .slice a4 (gP B).length c4] (0, 0) _ HK8.out Try.underlying30 rfl info30s ?_)
        | (refine wpList_store_mid rfl 30 (.tmp 2) (.tmp 31) rfl F 0 #[.int .u32 n1, .int .i64 n2, .int .i64 n3, .slice a4 (gP B).length c4] rfl rfl HTH.out info30s H1C.out ?_; refine wpl_world (Turn F (.cells #[.int .u32 n1, .int .i64 n2, .int .i64 n3, .slice a4 (gP B).length c4] 30) w8) HTU.out ?_; intro W9 HT9))
      have HGE : Kp (getE B = 0) := ⟨by unfold getE; rw [if_neg (by simp [HE0.out]), if_pos HRR.out]⟩
      have HO9 : Kp (HoldsB W9 W9.heap.size (.slice a4 (gP B).length c4) (gP B)) := ⟨HoldsB.ofRow HPB.out (ownsRow_turn HO8.out HT9 HFK.out)⟩
      have HB9 : Kp (Below F w W9) := ⟨HF8.out.2.trans (HT9.below (Nat.le_refl _) (by have := HF8.out.1.lt; omega))⟩
      have HBK := Kp.mk HT9.blk
      clear HT9
      exact bodyPost_ret (results_row_tmp rfl _ _ F 30 _ (0, 0) _ _ rfl rfl HBK.out Try.underlying30 rfl info30s) rfl ⟨a4, c4, by unfold gX gT; rw [if_pos HGE.out, if_pos HGE.out, if_pos HGE.out, if_pos HGE.out, HGE.out, HN1.out, HN2.out, HN3.out]; rfl, by unfold gT; rw [if_pos HGE.out]; exact HO9.out, by rw [← HFe.out]; exact HB9.out⟩
    | false =>
      have HRR := Kp.mk hrr
      have HTU := Kp.mk (turn4 HF8.out.1 (.int .u32 0) (.int .i64 0) (.int .i64 0) (.slice none 0 0))
      have H1C : Kp ((#[.int .u32 0, .int .i64 0, .int .i64 0, .slice none 0 0] : Array Value).all (·.oneCell') = true) := ⟨one4 _ _ _ _ _ _⟩
      clear hrr
      go_wp2_with (refine wpList_store_mid rfl 30 (.tmp 2) (.tmp 30) rfl F 0 #[.int .u32 0, .int .i64 0, .int .i64 0, .slice none 0 0] rfl rfl HTH.out info30s H1C.out ?_; refine wpl_world (Turn F (.cells #[.int .u32 0, .int .i64 0, .int .i64 0, .slice none 0 0] 30) w8) HTU.out ?_; intro W9 HT9)
      have HGE : Kp (getE B = 10) := ⟨by unfold getE; rw [if_neg (by simp [HE0.out]), if_neg (by rw [HRR.out]; decide)]⟩
      have HB9 : Kp (Below F w W9) := ⟨HF8.out.2.trans (HT9.below (Nat.le_refl _) (by have := HF8.out.1.lt; omega))⟩
      have HBK := Kp.mk HT9.blk
      clear HT9
      exact bodyPost_ret (results_row_tmp rfl _ _ F 30 _ (0, 0) _ _ rfl rfl HBK.out Try.underlying30 rfl info30s) rfl ⟨none, 0, by unfold gX gT; rw [HGE.out]; rfl, by unfold gT; rw [HGE.out]; exact HoldsB.nil _ _, by rw [← HFe.out]; exact HB9.out⟩
  · have HGE : Kp (getE B = gEnd B) := ⟨by unfold getE; rw [if_pos he]⟩
    have HNE := Kp.mk he
    have hk1 : (gEnd B == 0) = false := by simpa using he
    have hk2 : (gEnd B != 0) = true := by simpa using he
    have HTH := Kp.mk (there4 HF7.out.b)
    have HTU := Kp.mk (turn4 HF7.out.b (.int .u32 0) (.int .i64 0) (.int .i64 0) (.slice none 0 0))
    have H1C : Kp ((#[.int .u32 0, .int .i64 0, .int .i64 0, .slice none 0 0] : Array Value).all (·.oneCell') = true) := ⟨one4 _ _ _ _ _ _⟩
    clear he
    generalize gEnd B = E at *
    go_wp2_with (refine wpList_store_mid rfl 30 (.tmp 2) (.tmp 25) rfl F 0 #[.int .u32 0, .int .i64 0, .int .i64 0, .slice none 0 0] rfl rfl HTH.out info30s H1C.out ?_; refine wpl_world (Turn F (.cells #[.int .u32 0, .int .i64 0, .int .i64 0, .slice none 0 0] 30) w7) HTU.out ?_; intro W9 HT9)
    have HB9 : Kp (Below F w W9) := ⟨HF7.out.below.trans (HT9.below (Nat.le_refl _) (by have := HF7.out.b.lt; omega))⟩
    have HBK := Kp.mk HT9.blk
    clear HT9
    exact bodyPost_ret (results_row_tmp rfl _ _ F 30 _ (0, 0) _ _ rfl rfl HBK.out Try.underlying30 rfl info30s) rfl ⟨none, 0, by unfold gX gT; rw [if_neg (by rw [HGE.out]; exact HNE.out), if_neg (by rw [HGE.out]; exact HNE.out), if_neg (by rw [HGE.out]; exact HNE.out), if_neg (by rw [HGE.out]; exact HNE.out), HGE.out]; rfl, by unfold gT; rw [if_neg (by rw [HGE.out]; exact HNE.out)]; exact HoldsB.nil _ _, by rw [← HFe.out]; exact HB9.out⟩
end Go.Proofs.Ytlgcpfeaecpocaa
