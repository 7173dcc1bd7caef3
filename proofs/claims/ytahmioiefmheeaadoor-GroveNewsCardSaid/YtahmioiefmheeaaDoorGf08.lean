/-
  ladder.withRung, the document's Text of a place with a rung.
  The document's Mac.
  mac.Cost, the document's Cost.
  The tag of the example, by the kernel.
  The laws' awake of layer 5.
  Sums held against each other.
  The document's Tag; the law MacTags, walked.
  The law MacShorts, walked.
-/
import Derived.Test.YtahmioiefmheeaaDoorGf07
import Derived.Stop.BytesEq
namespace Go.Proofs.YtahmioiefmheeaaDoor
open Go.RowKit

/-- A place. -/
abbrev plV (d e s : Int) : Value := .agg #[.int .i64 d, .int .u32 e, .int .u32 s]
/-- A place with a rung, as bytes. -/
def placeL (d e s r : Int) : List Int := [d % 256] ++ be32 e ++ be32 s ++ [r % 256]
theorem placeL_len (d e s r : Int) : (placeL d e s r).length = 10 := rfl
theorem numL_four (x : Int) : numL x 4 = be32 x := by
  show [x / 16777216 % 256, x / 65536 % 256, x / 256 % 256, x / 1 % 256] = _
  rw [Int.ediv_one]
  rfl
/-- What stands behind so many of the two numbers. -/
def plS (d e s : Int) : Nat → List Int
  | 0 => [d % 256]
  | 1 => [d % 256] ++ be32 e
  | _ => [d % 256] ++ be32 e ++ be32 s
theorem plS_bytes (d e s : Int) (r : Int) : Bytes (placeL d e s r) := by
  unfold placeL
  refine ((Bytes.append ?_ (be32_bytes e)).append (be32_bytes s)).append ?_
  · intro x hx; simp at hx; omega
  · intro x hx; simp at hx; omega
/-- Four bytes in a new block, as a slice. -/
theorem four_holds (w : World) (x : Int) (h0 : 0 ≤ x) (h1 : x < 4294967296) : HoldsB (w.alloc (.cells #[.int .u8 (x / 16777216), .int .u8 (x / 65536 % 256), .int .u8 (x / 256 % 256), .int .u8 (x % 256)] 5)) (w.alloc (.cells #[.int .u8 (x / 16777216), .int .u8 (x / 65536 % 256), .int .u8 (x / 256 % 256), .int .u8 (x % 256)] 5)).heap.size (.slice (some ⟨w.heap.size, 0, none⟩) 4 4) (be32 x) := by
  have e : x / 16777216 = x / 16777216 % 256 := by omega
  rw [e]
  exact HoldsB.ofRow2 (off := 0) (Blk.new w _) rfl (Nat.le_refl _) (by unfold maxLen; omega) (fun i hi => match i, hi with | 0, _ => rfl | 1, _ => rfl | 2, _ => rfl | 3, _ => rfl | i + 4, hi => absurd hi (by simp [be32])) (be32_bytes x)
set_option maxRecDepth 100000 in
set_option maxHeartbeats 1000000 in
theorem withRung_any (d e s r : Int) (w : World) (he : 0 ≤ e ∧ e < 4294967296) (hs : 0 ≤ s ∧ s < 4294967296) :
    Calls Tryd.prog 97 #[plV d e s, .int .i64 r] w fun q w' => ∃ v', q = .returned v' ∧ HoldsB w' w'.heap.size v' (placeL d e s r) ∧ Below w.heap.size w w' := by
  have e0 := he.1
  have e1 := he.2
  have s0 := hs.1
  have s1 := hs.2
  clear he hs
  go_enter Tryd.func97, Tryd.ntmps97
  go_wp2_with fail
  obtain ⟨A, hA⟩ : ∃ A, A = w.heap.size := ⟨_, rfl⟩
  have HA := Kp.mk hA
  rw [← hA]
  obtain ⟨B, hB⟩ : ∃ B, B = A + 1 := ⟨_, rfl⟩
  have HB := Kp.mk hB
  refine wp_world (fun W => W.ownsRow B 5 1 (.slice (some ⟨B, 0, none⟩) 1 1) 1 (bv [d % 256]) ∧ Below A w W ∧ B ≤ W.heap.size) ⟨?_, by rw [hA]; exact more (more (Below.refl _ _) _) _, by rw [hB, hA]; simp⟩ ?_
  · have h := ownsRow_one (w.alloc (.cells #[.int .i64 d, .int .u32 e, .int .u32 s] 51)) (d % 256)
    have e1 : (w.alloc (.cells #[.int .i64 d, .int .u32 e, .int .u32 s] 51)).heap.size = B := by rw [hB, hA]; simp
    rw [e1] at h
    exact h
  rw [← hB]
  clear hA hB
  rintro W ⟨h1, h2, h3⟩
  have G1 := Kp.mk h1
  have G2 := Kp.mk h2
  have G3 := Kp.mk h3
  clear h1 h2 h3
  go_loopw [5, 17] (fun s5 c wr => ∃ (i N : Nat) (a5 : Option Addr) (c5 : Nat), i ≤ 2 ∧ c = .int .i64 i ∧ s5 = .slice a5 N c5 ∧ Kp (N = 1 + 4 * i) ∧ wr.ownsRow B 5 1 (.slice a5 N c5) N (bv (plS d e s i)) ∧ Below A w wr ∧ B ≤ wr.heap.size) (fun _ c _ => 2 - (intOf c).toNat)
  case atStart => exact ⟨0, 1, _, _, by omega, rfl, rfl, ⟨rfl⟩, G1.out, G2.out, G3.out⟩
  case round =>
    obtain ⟨i, N, a5, c5, hi, rfl, rfl, HNN, h1, h2, h3⟩ := hrel
    clear G1 G2 G3
    have G1 := Kp.mk h1
    have G2 := Kp.mk h2
    have G3 := Kp.mk h3
    clear h1 h2 h3
    have HAB : Kp (A ≤ B) := ⟨by have := HB.out; omega⟩
    have hNb : N ≤ 9 := by have := HNN.out; omega
    by_cases hlt : i < 2
    · obtain ⟨x, hx⟩ : ∃ x, x = if i = 0 then e else s := ⟨_, rfl⟩
      have hidx : ∀ w, (Instr.index 157 (.agg #[.int .u32 e, .int .u32 s]) (.int .i64 i)).run Tryd.prog w = .ok (.int .u32 x) w := by
        intro w
        rcases (show i = 0 ∨ i = 1 by omega) with rfl | rfl
        · rw [hx]; kernel_rfl
        · rw [hx]; kernel_rfl
      have x0 : 0 ≤ x := by rw [hx]; split <;> assumption
      have x1 : x < 4294967296 := by rw [hx]; split <;> assumption
      have HST : Kp (plS d e s (i + 1) = plS d e s i ++ be32 x) := ⟨by
        rcases (show i = 0 ∨ i = 1 by omega) with rfl | rfl
        · rw [hx]; rfl
        · rw [hx]; rfl⟩
      clear hx
      go_wp2_with (at_builtin; refine wpList_append_holds rfl _ _ rfl B _ _ _ rfl (G1.out.alloc _) _ _ (be32 x) rfl (four_holds wr x x0 x1) ?d0 ?d1 ?_)
      case d0 => rw [be32_len]; omega
      case d1 => have := G3.out; simp; omega
      intro v2 w2 ho hg
      have hbel : Below B wr w2 := below_row_grown ((Below.refl _ _).alloc G3.out _) (by have := G3.out; simp; omega) (G1.out.alloc _) hg
      obtain ⟨L2, hL2⟩ : ∃ L2, L2 = N + 4 := ⟨_, rfl⟩
      have ho2 : w2.ownsRow B 5 1 v2 L2 (bv (plS d e s (i + 1))) := by
        rw [HST.out, hL2]
        rw [be32_len] at ho
        simpa using ho
      obtain ⟨a2, c2, rfl⟩ := row_slice ho2
      have HO2 := Kp.mk ho2
      have HL2 : Kp (L2 = 1 + 4 * (i + 1)) := ⟨by have := HNN.out; omega⟩
      have HG4 : Kp (Below A w w2 ∧ B ≤ w2.heap.size) := ⟨G2.out.trans (hbel.mono HAB.out), Nat.le_trans G3.out hbel.size⟩
      clear ho hg hbel ho2 hL2 hidx
      go_wp2_with fail
      exact ⟨⟨i + 1, L2, a2, c2, by omega, by go_num, rfl, HL2, HO2.out, HG4.out.1, HG4.out.2⟩, by simp [intOf]; omega⟩
    · have hge : 2 ≤ (i : Int) := by omega
      have HI : Kp (i = 2) := ⟨by omega⟩
      clear hlt hi
      go_wp2_with (at_builtin; refine wpList_append_holds rfl _ _ rfl B _ _ _ rfl (G1.out.alloc _) _ _ [r % 256] rfl (one_holds wr _ (by omega)) ?d0 ?d1 ?_)
      case d0 => simp; omega
      case d1 => have := G3.out; simp; omega
      intro v2 w2 ho hg
      have hbel : Below B wr w2 := below_row_grown ((Below.refl _ _).alloc G3.out _) (by have := G3.out; simp; omega) (G1.out.alloc _) hg
      have HO : Kp (HoldsB w2 w2.heap.size v2 (placeL d e s r)) := ⟨HoldsB.ofRow (plS_bytes d e s r) (by
        have h := HNN.out
        rw [HI.out] at ho h
        subst h
        exact ho)⟩
      have HG4 : Kp (Below A w w2) := ⟨G2.out.trans (hbel.mono HAB.out)⟩
      clear ho hg hbel
      go_wp2_with fail
      go_ret
      exact ⟨_, rfl, HO.out, by rw [← HA.out]; exact HG4.out⟩
set_option maxRecDepth 100000 in
set_option maxHeartbeats 1000000 in
theorem rplace_any (d e s r : Int) (w : World) (he : 0 ≤ e ∧ e < 4294967296) (hs : 0 ≤ s ∧ s < 4294967296) :
    Calls Tryd.prog 98 #[plV d e s, .int .i64 r] w fun q w' => ∃ v', q = .returned v' ∧ HoldsB w' w'.heap.size v' (placeL d e s r) ∧ Below w.heap.size w w' := by
  have HE := Kp.mk he
  have HS := Kp.mk hs
  have e0 := he.1
  have e1 := he.2
  have s0 := hs.1
  have s1 := hs.2
  clear he hs
  go_enter Tryd.func98, Tryd.ntmps98
  go_wp2_with fail
  obtain ⟨A, hA⟩ : ∃ A, A = w.heap.size := ⟨_, rfl⟩
  have HA := Kp.mk hA
  rw [← hA]
  obtain ⟨B, hB⟩ : ∃ B, B = A + 1 := ⟨_, rfl⟩
  have HB := Kp.mk hB
  refine calls_world (fun W => W.ownsRow B 5 1 (.slice (some ⟨B, 0, none⟩) 1 1) 1 (bv [d % 256]) ∧ Blk W A (.cells #[.int .i64 d, .int .u32 e, .int .u32 s] 48) ∧ Below A w W ∧ B ≤ W.heap.size) ⟨?_, Blk.old (Blk.newAt _ hA) _, by rw [hA]; exact more (more (Below.refl _ _) _) _, by rw [hB, hA]; simp⟩ ?_
  · have h := ownsRow_one (w.alloc (.cells #[.int .i64 d, .int .u32 e, .int .u32 s] 48)) (d % 256)
    have e1 : (w.alloc (.cells #[.int .i64 d, .int .u32 e, .int .u32 s] 48)).heap.size = B := by rw [hB, hA]; simp
    rw [e1] at h
    exact h
  rw [← hB]
  clear hA hB
  rintro W ⟨h1, hk, h2, h3⟩
  have G1 := Kp.mk h1
  have GK := Kp.mk hk
  have G2 := Kp.mk h2
  have G3 := Kp.mk h3
  clear h1 hk h2 h3
  have HAB : Kp (A < B) := ⟨by have := HB.out; omega⟩
  refine (num_any e 4 W (Or.inl rfl) HE.out.1 (by have := HE.out.2; omega)).mono ?_
  rintro q w1 ⟨v1, rfl, h1, h2⟩
  have F1 := Kp.mk h1
  have FO := Kp.mk (ownsRow_below G1.out h2)
  have FK := Kp.mk (GK.out.keep h2)
  have FB : Kp (Below A w w1 ∧ B ≤ w1.heap.size) := ⟨G2.out.trans (h2.mono (by have := HAB.out; have := G3.out; omega)), Nat.le_trans G3.out h2.size⟩
  clear h1 h2 G1 GK G2 G3
  go_wp2_with (at_builtin; refine wpList_append_holds rfl _ _ rfl B _ _ _ rfl FO.out _ _ (numL e 4) rfl F1.out ?c0 ?c1 ?_)
  case c0 => rw [numL_len]; omega
  case c1 => exact FB.out.2
  intro v2 w2 ho hg
  have hbel : Below B w1 w2 := below_row_grown (Below.refl _ _) FB.out.2 FO.out hg
  have ho2 : w2.ownsRow B 5 1 v2 5 (bv (plS d e s 1)) := by
    rw [numL_len, numL_four] at ho
    exact ho
  obtain ⟨a2, c2, rfl⟩ := row_slice ho2
  have G1 := Kp.mk ho2
  have G2 : Kp (Below A w w2 ∧ B ≤ w2.heap.size) := ⟨FB.out.1.trans (hbel.mono (Nat.le_of_lt HAB.out)), Nat.le_trans FB.out.2 hbel.size⟩
  have GK := Kp.mk (FK.out.upto hbel HAB.out)
  have k0 := GK.out.three
  clear ho hg hbel ho2 F1 FO FK FB
  have c2' : w2.cell? ⟨A, 2, none⟩ = some (.int .u32 s) := GK.out.cell 2
  clear k0
  go_wp2_with fail
  clear c2'
  refine (num_any s 4 w2 (Or.inl rfl) HS.out.1 (by have := HS.out.2; omega)).mono ?_
  rintro q w3 ⟨v3, rfl, h1, h2⟩
  have F1 := Kp.mk h1
  have FO := Kp.mk (ownsRow_below G1.out h2)
  have FB : Kp (Below A w w3 ∧ B ≤ w3.heap.size) := ⟨G2.out.1.trans (h2.mono (by have := HAB.out; have := G2.out.2; omega)), Nat.le_trans G2.out.2 h2.size⟩
  clear h1 h2 G1 GK G2
  go_wp2_with (at_builtin; refine wpList_append_holds rfl _ _ rfl B _ _ _ rfl FO.out _ _ (numL s 4) rfl F1.out ?d0 ?d1 ?_)
  case d0 => rw [numL_len]; omega
  case d1 => exact FB.out.2
  intro v4 w4 ho hg
  have hbel : Below B w3 w4 := below_row_grown (Below.refl _ _) FB.out.2 FO.out hg
  have ho2 : w4.ownsRow B 5 1 v4 9 (bv (plS d e s 2)) := by
    rw [numL_len, numL_four] at ho
    exact ho
  obtain ⟨a4, c4, rfl⟩ := row_slice ho2
  have G1 := Kp.mk ho2
  have G2 : Kp (Below A w w4 ∧ B ≤ w4.heap.size) := ⟨FB.out.1.trans (hbel.mono (Nat.le_of_lt HAB.out)), Nat.le_trans FB.out.2 hbel.size⟩
  clear ho hg hbel ho2 F1 FO FB
  go_wp2_with (at_builtin; refine wpList_append_holds rfl _ _ rfl B _ _ _ rfl (G1.out.alloc _) _ _ [r % 256] rfl (one_holds w4 _ (by omega)) ?e0 ?e1 ?_)
  case e0 => simp
  case e1 => have := G2.out.2; simp; omega
  intro v5 w5 ho hg
  have hbel : Below B w4 w5 := below_row_grown ((Below.refl _ _).alloc G2.out.2 _) (by have := G2.out.2; simp; omega) (G1.out.alloc _) hg
  have HO : Kp (HoldsB w5 w5.heap.size v5 (placeL d e s r)) := ⟨HoldsB.ofRow (plS_bytes d e s r) ho⟩
  have HG4 : Kp (Below A w w5) := ⟨G2.out.1.trans (hbel.mono (Nat.le_of_lt HAB.out))⟩
  clear ho hg hbel
  go_wp2_with fail
  go_ret
  exact ⟨_, rfl, HO.out, by rw [← HA.out]; exact HG4.out⟩
end Go.Proofs.YtahmioiefmheeaaDoor

namespace Go.Proofs.YtahmioiefmheeaaDoor
open Go.RowKit

theorem size32 {l : List Int} (h : l.length = 32) : (kv .u8 (fill 32 [])).toArray.size = (kv .u8 l).toArray.size := by rw [kv_size, kv_size, h]; rfl
set_option maxRecDepth 100000 in
theorem slice24_all (b : Nat) (w : World) : (Instr.sliceAt 37 (.pointer (some ⟨b, 0, none⟩)) none none none).run Tryd.prog w = .ok (.slice (some ⟨b, 0, none⟩) 32 32) w := by
  have hl : Tryd.prog.arrayLen 37 = 32 := by kernel_rfl
  have he : Tryd.prog.elem 37 = 5 := by kernel_rfl
  rw [run_sliceAt_array_all (ht := Tryd.underlying37), hl, he, size5]
  rfl
set_option maxRecDepth 100000 in
set_option maxHeartbeats 2000000 in
theorem rmac_any (M N : Nat) (v u : Value) (k p : List Int) (w : World) (hp : HoldsB w M v k) (hq : HoldsB w N u p) (hlen : k.length ≤ 140737488351232) (hlen2 : p.length ≤ 140737488351300) :
    Calls Tryd.prog 116 #[v, u] w fun r w' => r = .returned (.agg (kv .u8 (macL k p)).toArray) ∧ Below w.heap.size w w' := by
  obtain ⟨a0, n, cap, rfl, hn⟩ := hp.slice
  have HP := Kp.mk hp
  have HQ := Kp.mk hq
  have HL := Kp.mk hlen
  have HL2 := Kp.mk hlen2
  have HN := Kp.mk hn
  have HKL := Kp.mk (keyb_len k)
  have hnm : n ≤ 140737488351232 := by omega
  obtain ⟨A, hA⟩ : ∃ A, A = w.heap.size := ⟨_, rfl⟩
  have HA := Kp.mk hA
  clear hp hq hlen hlen2
  by_cases hbig : 64 < n
  · have HBIG : Kp (keyb k = fill 64 (digest k)) := ⟨keyb_big (by omega)⟩
    have HDL := Kp.mk (digest_len k)
    have HCD := Kp.mk (cells24 (digest_len k))
    have HZD := Kp.mk (size32 (digest_len k))
    clear hn
    go_enter Tryd.func116, Tryd.ntmps116
    go_wp2_with fail
    rw [← hA]
    refine calls_world (fun W => Row W A 37 .u8 (fill 32 []) ∧ Row W (A + 1) 145 .u8 (fill 64 []) ∧ Below A w W) ⟨Row.alloc (Blk.newAt (w := w) z24 hA) _, Blk.newAt (w := w.alloc z24) z75 (by rw [hA]; simp), by rw [hA]; exact more (more (Below.refl _ _) z24) z75⟩ ?_
    rintro w1 ⟨hr, hr1, hb⟩
    have HR := Kp.mk hr
    have HR1 := Kp.mk hr1
    have HB := Kp.mk hb
    clear hr hr1 hb hA
    refine (rsum_any M _ k w1 (HP.out.keep (by rw [← HA.out]; exact HB.out)) (by have := HL.out; omega)).mono ?_
    rintro r w2 ⟨rfl, h2⟩
    have HR2 := Kp.mk (HR.out.keep h2)
    have HR3 := Kp.mk (HR1.out.keep h2)
    have HB2 : Kp (Below A w w2) := ⟨HB.out.trans (h2.mono (Nat.le_of_lt HR.out.lt))⟩
    clear h2
    generalize digest k = d at *
    obtain ⟨D, hD⟩ : ∃ D, D = w2.heap.size := ⟨_, rfl⟩
    have HADl : Kp (A + 1 < D) := ⟨by rw [hD]; exact HR3.out.lt⟩
    go_wp2_with (refine wpList_store_row rfl 37 (.tmp 6) (.tmp 17) rfl w2.heap.size (kv .u8 d).toArray rfl rfl 37 _ (Blk.new w2 z24) HCD.out HZD.out (kv_all _ _) ?_)
    rw [← hD]
    refine wp_world (fun W => Row W D 37 .u8 d ∧ Row W (A + 1) 145 .u8 (fill 64 (d.take 0)) ∧ Row W A 37 .u8 (fill 32 []) ∧ Below A w W) ⟨Row.setRow (k := .u8) (l := fill 32 []) (Blk.newAt z24 hD) _, Row.otherRow (HR3.out.alloc z24) (by have := HADl.out; omega) _, Row.otherRow (HR2.out.alloc z24) (by have := HADl.out; omega) _, Below.row (HB2.out.alloc (Nat.le_of_lt HR2.out.lt) z24) (by have := HADl.out; omega) _⟩ ?_
    rintro w3 ⟨h1, h2, h3, h4⟩
    have J1 := Kp.mk h1
    have J2 := Kp.mk h2
    have J3 := Kp.mk h3
    have J4 := Kp.mk h4
    clear h1 h2 h3 h4 hD
    go_loopw [7] (fun c wr => ∃ i : Nat, i ≤ 32 ∧ c = .int .i64 i ∧ Row wr D 37 .u8 d ∧ Row wr (A + 1) 145 .u8 (fill 64 (d.take i)) ∧ Row wr A 37 .u8 (fill 32 []) ∧ Below A w wr) (fun c _ => 32 - (intOf c).toNat)
    case atStart => exact ⟨0, by omega, rfl, J1.out, J2.out, J3.out, J4.out⟩
    case round =>
      obtain ⟨i, hi, rfl, h1, h2, h3, h4⟩ := hrel
      have G1 := Kp.mk h1
      have G2 := Kp.mk h2
      have G3 := Kp.mk h3
      have G4 := Kp.mk h4
      clear h1 h2 h3 h4 J1 J2 J3 J4
      by_cases hlt : i < 32
      · have c1 := G1.out.cell (i := i) (by rw [HDL.out]; exact hlt)
        have c2 := G2.out.cell (i := i) (by rw [fill_len (by rw [List.length_take]; omega)]; omega)
        have f2 := G2.out.frozen i
        have HS := Kp.mk (fill_take (n := 64) (l := d) (i := i) (by rw [HDL.out]; omega) (by omega))
        generalize d.getD i 0 = x at *
        go_wp2_with fail
        exact ⟨⟨i + 1, by omega, by go_num, G1.out.other (by show A + 1 ≠ D; have := HADl.out; omega) _, (G2.out.set i _).as HS.out, G3.out.other (by show A + 1 ≠ A; omega) _, G4.out.setCell (by show A ≤ A + 1; omega) _⟩, by simp [intOf]; omega⟩
      · have HI : Kp (i = 32) := ⟨by omega⟩
        have hge : 32 ≤ (i : Int) := by omega
        have L2 : Kp (Row wr (A + 1) 145 .u8 (keyb k)) := ⟨by
          have h := G2.out
          rw [HI.out, List.take_of_length_le (by rw [HDL.out]; exact Nat.le_refl _)] at h
          rw [HBIG.out]
          exact h⟩
        have L1 := G3
        have L3 := G4
        clear hlt hi G1 G2
        go_wp2_with fail
        go_loopw [9, 10, 11] (fun s9 s10 c wr => ∃ (j : Nat) (a9 a10 : Option Addr) (c9 c10 : Nat), j ≤ 64 ∧ s9 = .slice a9 j c9 ∧ s10 = .slice a10 j c10 ∧ c = .int .i64 j ∧ Kp (Twin wr (A + 2) (.slice a9 j c9) (.slice a10 j c10) j j (over ((keyb k).take j) 54) (over ((keyb k).take j) 92)) ∧ Row wr (A + 1) 145 .u8 (keyb k) ∧ Row wr A 37 .u8 (fill 32 []) ∧ Below A w wr) (fun _ _ c _ => 64 - (intOf c).toNat)
        case atStart => exact ⟨0, none, none, 0, 0, by omega, rfl, rfl, rfl, ⟨⟨World.ownsRow_nil _ _ _ _, World.ownsRow_nil _ _ _ _, fun g h => by simp [Value.ownBlock] at h⟩⟩, L2.out, L1.out, L3.out⟩
        case round =>
          obtain ⟨j, a9, a10, c9, c10, hj, rfl, rfl, rfl, HT, h1, h2, h3⟩ := hrel
          have G1 := Kp.mk h1
          have G2 := Kp.mk h2
          have G3 := Kp.mk h3
          clear h1 h2 h3 L1 L2 L3
          by_cases hlt : j < 64
          · have c1 := G1.out.cell (i := j) (by rw [keyb_len]; exact hlt)
            have HO1 := Kp.mk (over_succ (l := keyb k) (j := j) (by rw [keyb_len]; exact hlt) 54)
            have HO2 := Kp.mk (over_succ (l := keyb k) (j := j) (by rw [keyb_len]; exact hlt) 92)
            obtain ⟨y, hy⟩ : ∃ y, (keyb k).getD j 0 = y := ⟨_, rfl⟩
            rw [hy] at c1 HO1 HO2
            go_wp2_with (at_builtin; refine wpList_append_holds2 rfl _ _ rfl (A + 2) _ _ _ rfl (HT.out.one.alloc _) _ _ [bits .xor .u8 y 54] rfl (one_holds wr _ (bits_u8r _ _ _)) ?e0 ?e1 ?_)
            case e0 => simp; omega
            case e1 => have := G1.out.lt; simp; omega
            intro v1 w1 ho hg hw
            have HT1 := Kp.mk ((HT.out.alloc _).step (p := [bits .xor .u8 y 54]) ho hg (fun g e => by rw [World.size_alloc]; exact hw g e))
            have hbel : Below (A + 2) wr w1 := below_row_grown ((Below.refl _ _).alloc (by have := G1.out.lt; omega) _) (by have := G1.out.lt; simp; omega) (HT.out.one.alloc _) hg
            obtain ⟨b9, d9, rfl⟩ := row_slice HT1.out.one
            have F1 := Kp.mk (G1.out.upto hbel (by omega))
            have F2 := Kp.mk (G2.out.upto hbel (by omega))
            have F3 : Kp (Below A w w1) := ⟨G3.out.trans (hbel.mono (by omega))⟩
            have c2 := F1.out.cell (i := j) (by rw [keyb_len]; exact hlt)
            have HY : Kp ((keyb k).getD j 0 = y) := ⟨hy⟩
            rw [HY.out] at c2
            rw [← HO1.out] at HT1
            simp only [List.length_cons, List.length_nil, Nat.zero_add] at HT1
            clear ho hg hw hbel c1 HT G1 G2 G3 hy
            go_wp2_with (at_builtin; refine wpList_append_holds2 rfl _ _ rfl (A + 2) _ _ _ rfl (HT1.out.two.alloc _) _ _ [bits .xor .u8 y 92] rfl (one_holds w1 _ (bits_u8r _ _ _)) ?g0 ?g1 ?_)
            case g0 => simp; omega
            case g1 => have := F1.out.lt; simp; omega
            intro v2 w4 ho hg hw
            have HT2 := Kp.mk ((HT1.out.swap.alloc _).step (p := [bits .xor .u8 y 92]) ho hg (fun g e => by rw [World.size_alloc]; exact hw g e))
            have hbel : Below (A + 2) w1 w4 := below_row_grown ((Below.refl _ _).alloc (by have := F1.out.lt; omega) _) (by have := F1.out.lt; simp; omega) (HT1.out.two.alloc _) hg
            obtain ⟨b10, d10, rfl⟩ := row_slice HT2.out.one
            have K1 := Kp.mk (F1.out.upto hbel (by omega))
            have K2 := Kp.mk (F2.out.upto hbel (by omega))
            have K3 : Kp (Below A w w4) := ⟨F3.out.trans (hbel.mono (by omega))⟩
            rw [← HO2.out] at HT2
            simp only [List.length_cons, List.length_nil, Nat.zero_add] at HT2
            clear ho hg hw hbel c2 HT1 F1 F2 F3
            go_wp2_with fail
            exact ⟨⟨j + 1, b9, b10, d9, d10, by omega, rfl, rfl, by go_num, ⟨HT2.out.swap⟩, K1.out, K2.out, K3.out⟩, by simp [intOf]; omega⟩
          · obtain rfl : j = 64 := by omega
            have HT4 : Kp (Twin wr (A + 2) (.slice a9 64 c9) (.slice a10 64 c10) 64 64 (over (keyb k) 54) (over (keyb k) 92)) := by
              have h := HT.out
              rw [List.take_of_length_le (by rw [keyb_len]; exact Nat.le_refl _)] at h
              exact ⟨h⟩
            have HE : Kp (macL k p = digest (over (keyb k) 92 ++ digest (over (keyb k) 54 ++ p))) := ⟨rfl⟩
            have HOL : Kp (∀ x, (over (keyb k) x).length = 64) := ⟨fun x => by rw [over_len, keyb_len]⟩
            have HOB : Kp (∀ x, Bytes (over (keyb k) x)) := ⟨fun x => over_bytes _ x⟩
            have HQr : Kp (HoldsB wr N u p) := ⟨HQ.out.keep (by rw [← HA.out]; exact G3.out)⟩
            have HLe := Kp.mk G1.out.lt
            clear HT hj hlt
            obtain ⟨R, hR⟩ : ∃ R, R = macL k p := ⟨_, rfl⟩
            rw [← hR] at HE
            have HRR := Kp.mk hR
            clear hR
            generalize keyb k = B at *
            go_wp2_with (at_builtin; refine wpList_append_holds2 rfl _ _ rfl (A + 2) _ _ _ rfl HT4.out.one _ _ p rfl HQr.out ?k0 ?k1 ?_)
            case k0 => have := HL2.out; omega
            case k1 => have := HLe.out; omega
            intro v3 w5 ho hg hw
            have HT5 := Kp.mk (HT4.out.step (p := p) ho hg hw)
            have hbel : Below (A + 2) wr w5 := below_row_grown (Below.refl _ _) (by have := HLe.out; omega) HT4.out.one hg
            have K2 := Kp.mk (G2.out.upto hbel (by omega))
            have K3 : Kp (Below A w w5) := ⟨G3.out.trans (hbel.mono (by omega))⟩
            have HV3 : Kp (HoldsB w5 w5.heap.size v3 (over B 54 ++ p)) := ⟨HoldsB.ofRow ((HOB.out 54).append HQr.out.bytes) (by rw [List.length_append, HOL.out]; exact HT5.out.one)⟩
            have HS5 : Kp (A + 1 < w5.heap.size) := ⟨by have := HLe.out; have := hbel.size; omega⟩
            clear ho hg hw hbel HT4 G1 G2 G3
            go_wp2_with fail
            refine (rsum_any _ v3 (over B 54 ++ p) w5 HV3.out (by rw [List.length_append, HOL.out]; have := HL2.out; omega)).mono ?_
            rintro r w6 ⟨rfl, h6⟩
            have P2 := Kp.mk (K2.out.keep h6)
            have P3 : Kp (Below A w w6) := ⟨K3.out.trans (h6.mono (Nat.le_of_lt K2.out.lt))⟩
            have P4 := Kp.mk (ownsRow_below HT5.out.two h6)
            have HS6 : Kp (A + 1 < w6.heap.size) := ⟨by have := HS5.out; have := h6.size; omega⟩
            have HIL := Kp.mk (digest_len (over B 54 ++ p))
            have HIB := Kp.mk (digest_bytes (over B 54 ++ p))
            clear h6 K2 K3 HV3 HT5
            generalize digest (over B 54 ++ p) = I at *
            have HCI := Kp.mk (cells24 HIL.out)
            have HZI := Kp.mk (size32 HIL.out)
            obtain ⟨E, hEe⟩ : ∃ E, E = w6.heap.size := ⟨_, rfl⟩
            obtain ⟨W, hW⟩ : ∃ W, W = (w6.alloc z24).setRow E (kv .u8 I).toArray := ⟨_, rfl⟩
            have S1 : Kp (Row W E 37 .u8 I) := ⟨by rw [hW]; exact Row.setRow (k := .u8) (l := fill 32 []) (Blk.newAt z24 hEe) _⟩
            have S2 : Kp (Row W A 37 .u8 (fill 32 [])) := ⟨by rw [hW]; exact Row.otherRow (P2.out.alloc z24) (by have := P2.out.lt; omega) _⟩
            have S3 : Kp (Below A w W) := ⟨by rw [hW]; exact Below.row (P3.out.alloc (Nat.le_of_lt P2.out.lt) z24) (by have := P2.out.lt; omega) _⟩
            have S4 : Kp (W.ownsRow (A + 2) 5 1 (.slice a10 64 c10) 64 (bv (over B 92))) := ⟨by
              rw [hW]
              refine (P4.out.alloc z24).kept (row := some E) (Turn.grown (Turn.row (Turn.same (Blk.newAt z24 hEe)) _)) (Or.inr fun e => ?_)
              have := (P4.out.lt E e).2
              omega⟩
            have HH : Kp (HoldsB W W.heap.size (.slice (some ⟨E, 0, none⟩) 32 32) I) := ⟨by
              have h := HoldsB.ofBytes S1.out HIB.out (by rw [HIL.out]; decide)
              rw [HIL.out] at h
              exact h⟩
            have HSz : Kp (A + 2 ≤ W.heap.size) := ⟨by have := HS6.out; rw [hW]; simp [World.setRow]; omega⟩
            have hs := slice24_all
            subst hEe
            go_wp2_with (first
              | (refine wpList_store_row rfl 37 (.tmp 12) (.tmp 60) rfl w6.heap.size (kv .u8 I).toArray rfl rfl 37 _ (Blk.new w6 z24) HCI.out HZI.out (kv_all _ _) ?_; refine wpl_world (· = W) hW.symm ?_; clear hW; intro W0 e; rw [e]; clear e)
              | (at_builtin; refine wpList_append_holds2 rfl _ _ rfl (A + 2) _ _ _ rfl S4.out _ _ I rfl HH.out ?m0 ?m1 ?_))
            case m0 => rw [HIL.out]; omega
            case m1 => exact HSz.out
            intro v4 w7 ho hg hw
            have ho2 : w7.ownsRow (A + 2) 5 1 v4 (over B 92 ++ I).length (bv (over B 92 ++ I)) := by
              rw [List.length_append, HOL.out, show bv (over B 92 ++ I) = bv (over B 92) ++ bv I by simp]
              exact ho
            have hbel : Below (A + 2) W w7 := below_row_grown (Below.refl _ _) HSz.out S4.out hg
            have T2 := Kp.mk (S2.out.upto hbel (by omega))
            have T3 : Kp (Below A w w7) := ⟨S3.out.trans (hbel.mono (by omega))⟩
            have HV4 : Kp (HoldsB w7 w7.heap.size v4 (over B 92 ++ I)) := ⟨HoldsB.ofRow ((HOB.out 92).append HIB.out) ho2⟩
            clear ho hg hw hbel ho2 hs
            go_wp2_with fail
            refine (rsum_any _ v4 (over B 92 ++ I) w7 HV4.out (by rw [List.length_append, HOL.out, HIL.out]; omega)).mono ?_
            rintro r w8 ⟨rfl, h8⟩
            have U2 := Kp.mk (T2.out.keep h8)
            have U3 : Kp (Below A w w8) := ⟨T3.out.trans (h8.mono (Nat.le_of_lt T2.out.lt))⟩
            rw [← HE.out]
            have HRL : Kp (R.length = 32) := ⟨by rw [HE.out]; exact digest_len _⟩
            have HCR := Kp.mk (cells24 HRL.out)
            have HZR := Kp.mk (size32 HRL.out)
            have HF := Kp.mk (U2.out.setRow R)
            have HBf := Kp.mk (Below.row U3.out (g := A) (Nat.le_refl _) (kv .u8 R).toArray)
            clear h8
            go_wp2_with (refine wpList_store_row rfl 37 (.tmp 4) (.tmp 64) rfl A (kv .u8 R).toArray rfl rfl 37 _ U2.out HCR.out HZR.out (kv_all _ _) ?_)
            refine bodyPost_ret (v := .agg (kv .u8 R).toArray) ?_ rfl ⟨by rw [HRR.out], by rw [← HA.out]; exact HBf.out⟩
            exact results_cell_row rfl _ _ A 37 _ (0, 0) _ rfl HF.out Tryd.underlying37 rfl HCR.out
  · have HSM : Kp (keyb k = fill 64 k) := ⟨keyb_small (by omega)⟩
    have hle : n ≤ 64 := by omega
    clear hn hbig
    go_enter Tryd.func116, Tryd.ntmps116
    go_wp2_with fail
    rw [← hA]
    refine wp_world (fun W => Row W A 37 .u8 (fill 32 []) ∧ Row W (A + 1) 145 .u8 (fill 64 (k.take 0)) ∧ Below A w W) ⟨Row.alloc (Blk.newAt (w := w) z24 hA) _, Blk.newAt (w := w.alloc z24) z75 (by rw [hA]; simp), by rw [hA]; exact more (more (Below.refl _ _) z24) z75⟩ ?_
    rintro w1 ⟨hr, hr1, hb⟩
    have J1 := Kp.mk hr
    have J2 := Kp.mk hr1
    have J3 := Kp.mk hb
    clear hr hr1 hb hA
    go_loopw [8] (fun c wr => ∃ i : Nat, i ≤ n ∧ c = .int .i64 i ∧ Row wr (A + 1) 145 .u8 (fill 64 (k.take i)) ∧ Row wr A 37 .u8 (fill 32 []) ∧ Below A w wr) (fun c _ => n - (intOf c).toNat)
    case atStart => exact ⟨0, by omega, rfl, J2.out, J1.out, J3.out⟩
    case round =>
      obtain ⟨i, hi, rfl, h2, h3, h4⟩ := hrel
      have G2 := Kp.mk h2
      have G3 := Kp.mk h3
      have G4 := Kp.mk h4
      clear h2 h3 h4 J1 J2 J3
      have hki : n = k.length := HN.out
      by_cases hlt : i < n
      · obtain ⟨b0, off, rfl, -, c1⟩ := (HP.out.keep (by rw [← HA.out]; exact G4.out)).cellAt (i := i) (by omega)
        have c2 := G2.out.cell (i := i) (by rw [fill_len (by rw [List.length_take]; omega)]; omega)
        have f2 := G2.out.frozen i
        have HS := Kp.mk (fill_take (n := 64) (l := k) (i := i) (by omega) (by omega))
        generalize k.getD i 0 = x at *
        clear hki
        go_wp2_with fail
        exact ⟨⟨i + 1, by omega, by go_num, (G2.out.set i _).as HS.out, G3.out.other (by show A + 1 ≠ A; omega) _, G4.out.setCell (by show A ≤ A + 1; omega) _⟩, by simp [intOf]; omega⟩
      · have HI : Kp (i = n) := ⟨by omega⟩
        have hge : (n : Int) ≤ (i : Int) := by omega
        have hge2 : ¬ i < n := by omega
        have hge3 : n ≤ i := by omega
        have L2 : Kp (Row wr (A + 1) 145 .u8 (keyb k)) := ⟨by
          have h := G2.out
          rw [HI.out, List.take_of_length_le (by omega)] at h
          rw [HSM.out]
          exact h⟩
        have L1 := G3
        have L3 := G4
        clear hlt hi G2 hki
        go_wp2_with fail
        go_loopw [9, 10, 11] (fun s9 s10 c wr => ∃ (j : Nat) (a9 a10 : Option Addr) (c9 c10 : Nat), j ≤ 64 ∧ s9 = .slice a9 j c9 ∧ s10 = .slice a10 j c10 ∧ c = .int .i64 j ∧ Kp (Twin wr (A + 2) (.slice a9 j c9) (.slice a10 j c10) j j (over ((keyb k).take j) 54) (over ((keyb k).take j) 92)) ∧ Row wr (A + 1) 145 .u8 (keyb k) ∧ Row wr A 37 .u8 (fill 32 []) ∧ Below A w wr) (fun _ _ c _ => 64 - (intOf c).toNat)
        case atStart => exact ⟨0, none, none, 0, 0, by omega, rfl, rfl, rfl, ⟨⟨World.ownsRow_nil _ _ _ _, World.ownsRow_nil _ _ _ _, fun g h => by simp [Value.ownBlock] at h⟩⟩, L2.out, L1.out, L3.out⟩
        case round =>
          obtain ⟨j, a9, a10, c9, c10, hj, rfl, rfl, rfl, HT, h1, h2, h3⟩ := hrel
          have G1 := Kp.mk h1
          have G2 := Kp.mk h2
          have G3 := Kp.mk h3
          clear h1 h2 h3 L1 L2 L3
          by_cases hlt : j < 64
          · have c1 := G1.out.cell (i := j) (by rw [keyb_len]; exact hlt)
            have HO1 := Kp.mk (over_succ (l := keyb k) (j := j) (by rw [keyb_len]; exact hlt) 54)
            have HO2 := Kp.mk (over_succ (l := keyb k) (j := j) (by rw [keyb_len]; exact hlt) 92)
            obtain ⟨y, hy⟩ : ∃ y, (keyb k).getD j 0 = y := ⟨_, rfl⟩
            rw [hy] at c1 HO1 HO2
            go_wp2_with (at_builtin; refine wpList_append_holds2 rfl _ _ rfl (A + 2) _ _ _ rfl (HT.out.one.alloc _) _ _ [bits .xor .u8 y 54] rfl (one_holds wr _ (bits_u8r _ _ _)) ?e0 ?e1 ?_)
            case e0 => simp; omega
            case e1 => have := G1.out.lt; simp; omega
            intro v1 w1 ho hg hw
            have HT1 := Kp.mk ((HT.out.alloc _).step (p := [bits .xor .u8 y 54]) ho hg (fun g e => by rw [World.size_alloc]; exact hw g e))
            have hbel : Below (A + 2) wr w1 := below_row_grown ((Below.refl _ _).alloc (by have := G1.out.lt; omega) _) (by have := G1.out.lt; simp; omega) (HT.out.one.alloc _) hg
            obtain ⟨b9, d9, rfl⟩ := row_slice HT1.out.one
            have F1 := Kp.mk (G1.out.upto hbel (by omega))
            have F2 := Kp.mk (G2.out.upto hbel (by omega))
            have F3 : Kp (Below A w w1) := ⟨G3.out.trans (hbel.mono (by omega))⟩
            have c2 := F1.out.cell (i := j) (by rw [keyb_len]; exact hlt)
            have HY : Kp ((keyb k).getD j 0 = y) := ⟨hy⟩
            rw [HY.out] at c2
            rw [← HO1.out] at HT1
            simp only [List.length_cons, List.length_nil, Nat.zero_add] at HT1
            clear ho hg hw hbel c1 HT G1 G2 G3 hy
            go_wp2_with (at_builtin; refine wpList_append_holds2 rfl _ _ rfl (A + 2) _ _ _ rfl (HT1.out.two.alloc _) _ _ [bits .xor .u8 y 92] rfl (one_holds w1 _ (bits_u8r _ _ _)) ?g0 ?g1 ?_)
            case g0 => simp; omega
            case g1 => have := F1.out.lt; simp; omega
            intro v2 w4 ho hg hw
            have HT2 := Kp.mk ((HT1.out.swap.alloc _).step (p := [bits .xor .u8 y 92]) ho hg (fun g e => by rw [World.size_alloc]; exact hw g e))
            have hbel : Below (A + 2) w1 w4 := below_row_grown ((Below.refl _ _).alloc (by have := F1.out.lt; omega) _) (by have := F1.out.lt; simp; omega) (HT1.out.two.alloc _) hg
            obtain ⟨b10, d10, rfl⟩ := row_slice HT2.out.one
            have K1 := Kp.mk (F1.out.upto hbel (by omega))
            have K2 := Kp.mk (F2.out.upto hbel (by omega))
            have K3 : Kp (Below A w w4) := ⟨F3.out.trans (hbel.mono (by omega))⟩
            rw [← HO2.out] at HT2
            simp only [List.length_cons, List.length_nil, Nat.zero_add] at HT2
            clear ho hg hw hbel c2 HT1 F1 F2 F3
            go_wp2_with fail
            exact ⟨⟨j + 1, b9, b10, d9, d10, by omega, rfl, rfl, by go_num, ⟨HT2.out.swap⟩, K1.out, K2.out, K3.out⟩, by simp [intOf]; omega⟩
          · obtain rfl : j = 64 := by omega
            have HT4 : Kp (Twin wr (A + 2) (.slice a9 64 c9) (.slice a10 64 c10) 64 64 (over (keyb k) 54) (over (keyb k) 92)) := by
              have h := HT.out
              rw [List.take_of_length_le (by rw [keyb_len]; exact Nat.le_refl _)] at h
              exact ⟨h⟩
            have HE : Kp (macL k p = digest (over (keyb k) 92 ++ digest (over (keyb k) 54 ++ p))) := ⟨rfl⟩
            have HOL : Kp (∀ x, (over (keyb k) x).length = 64) := ⟨fun x => by rw [over_len, keyb_len]⟩
            have HOB : Kp (∀ x, Bytes (over (keyb k) x)) := ⟨fun x => over_bytes _ x⟩
            have HQr : Kp (HoldsB wr N u p) := ⟨HQ.out.keep (by rw [← HA.out]; exact G3.out)⟩
            have HLe := Kp.mk G1.out.lt
            clear HT hj hlt
            obtain ⟨R, hR⟩ : ∃ R, R = macL k p := ⟨_, rfl⟩
            rw [← hR] at HE
            have HRR := Kp.mk hR
            clear hR
            generalize keyb k = B at *
            go_wp2_with (at_builtin; refine wpList_append_holds2 rfl _ _ rfl (A + 2) _ _ _ rfl HT4.out.one _ _ p rfl HQr.out ?k0 ?k1 ?_)
            case k0 => have := HL2.out; omega
            case k1 => have := HLe.out; omega
            intro v3 w5 ho hg hw
            have HT5 := Kp.mk (HT4.out.step (p := p) ho hg hw)
            have hbel : Below (A + 2) wr w5 := below_row_grown (Below.refl _ _) (by have := HLe.out; omega) HT4.out.one hg
            have K2 := Kp.mk (G2.out.upto hbel (by omega))
            have K3 : Kp (Below A w w5) := ⟨G3.out.trans (hbel.mono (by omega))⟩
            have HV3 : Kp (HoldsB w5 w5.heap.size v3 (over B 54 ++ p)) := ⟨HoldsB.ofRow ((HOB.out 54).append HQr.out.bytes) (by rw [List.length_append, HOL.out]; exact HT5.out.one)⟩
            have HS5 : Kp (A + 1 < w5.heap.size) := ⟨by have := HLe.out; have := hbel.size; omega⟩
            clear ho hg hw hbel HT4 G1 G2 G3
            go_wp2_with fail
            refine (rsum_any _ v3 (over B 54 ++ p) w5 HV3.out (by rw [List.length_append, HOL.out]; have := HL2.out; omega)).mono ?_
            rintro r w6 ⟨rfl, h6⟩
            have P2 := Kp.mk (K2.out.keep h6)
            have P3 : Kp (Below A w w6) := ⟨K3.out.trans (h6.mono (Nat.le_of_lt K2.out.lt))⟩
            have P4 := Kp.mk (ownsRow_below HT5.out.two h6)
            have HS6 : Kp (A + 1 < w6.heap.size) := ⟨by have := HS5.out; have := h6.size; omega⟩
            have HIL := Kp.mk (digest_len (over B 54 ++ p))
            have HIB := Kp.mk (digest_bytes (over B 54 ++ p))
            clear h6 K2 K3 HV3 HT5
            generalize digest (over B 54 ++ p) = I at *
            have HCI := Kp.mk (cells24 HIL.out)
            have HZI := Kp.mk (size32 HIL.out)
            obtain ⟨E, hEe⟩ : ∃ E, E = w6.heap.size := ⟨_, rfl⟩
            obtain ⟨W, hW⟩ : ∃ W, W = (w6.alloc z24).setRow E (kv .u8 I).toArray := ⟨_, rfl⟩
            have S1 : Kp (Row W E 37 .u8 I) := ⟨by rw [hW]; exact Row.setRow (k := .u8) (l := fill 32 []) (Blk.newAt z24 hEe) _⟩
            have S2 : Kp (Row W A 37 .u8 (fill 32 [])) := ⟨by rw [hW]; exact Row.otherRow (P2.out.alloc z24) (by have := P2.out.lt; omega) _⟩
            have S3 : Kp (Below A w W) := ⟨by rw [hW]; exact Below.row (P3.out.alloc (Nat.le_of_lt P2.out.lt) z24) (by have := P2.out.lt; omega) _⟩
            have S4 : Kp (W.ownsRow (A + 2) 5 1 (.slice a10 64 c10) 64 (bv (over B 92))) := ⟨by
              rw [hW]
              refine (P4.out.alloc z24).kept (row := some E) (Turn.grown (Turn.row (Turn.same (Blk.newAt z24 hEe)) _)) (Or.inr fun e => ?_)
              have := (P4.out.lt E e).2
              omega⟩
            have HH : Kp (HoldsB W W.heap.size (.slice (some ⟨E, 0, none⟩) 32 32) I) := ⟨by
              have h := HoldsB.ofBytes S1.out HIB.out (by rw [HIL.out]; decide)
              rw [HIL.out] at h
              exact h⟩
            have HSz : Kp (A + 2 ≤ W.heap.size) := ⟨by have := HS6.out; rw [hW]; simp [World.setRow]; omega⟩
            have hs := slice24_all
            subst hEe
            go_wp2_with (first
              | (refine wpList_store_row rfl 37 (.tmp 12) (.tmp 60) rfl w6.heap.size (kv .u8 I).toArray rfl rfl 37 _ (Blk.new w6 z24) HCI.out HZI.out (kv_all _ _) ?_; refine wpl_world (· = W) hW.symm ?_; clear hW; intro W0 e; rw [e]; clear e)
              | (at_builtin; refine wpList_append_holds2 rfl _ _ rfl (A + 2) _ _ _ rfl S4.out _ _ I rfl HH.out ?m0 ?m1 ?_))
            case m0 => rw [HIL.out]; omega
            case m1 => exact HSz.out
            intro v4 w7 ho hg hw
            have ho2 : w7.ownsRow (A + 2) 5 1 v4 (over B 92 ++ I).length (bv (over B 92 ++ I)) := by
              rw [List.length_append, HOL.out, show bv (over B 92 ++ I) = bv (over B 92) ++ bv I by simp]
              exact ho
            have hbel : Below (A + 2) W w7 := below_row_grown (Below.refl _ _) HSz.out S4.out hg
            have T2 := Kp.mk (S2.out.upto hbel (by omega))
            have T3 : Kp (Below A w w7) := ⟨S3.out.trans (hbel.mono (by omega))⟩
            have HV4 : Kp (HoldsB w7 w7.heap.size v4 (over B 92 ++ I)) := ⟨HoldsB.ofRow ((HOB.out 92).append HIB.out) ho2⟩
            clear ho hg hw hbel ho2 hs
            go_wp2_with fail
            refine (rsum_any _ v4 (over B 92 ++ I) w7 HV4.out (by rw [List.length_append, HOL.out, HIL.out]; omega)).mono ?_
            rintro r w8 ⟨rfl, h8⟩
            have U2 := Kp.mk (T2.out.keep h8)
            have U3 : Kp (Below A w w8) := ⟨T3.out.trans (h8.mono (Nat.le_of_lt T2.out.lt))⟩
            rw [← HE.out]
            have HRL : Kp (R.length = 32) := ⟨by rw [HE.out]; exact digest_len _⟩
            have HCR := Kp.mk (cells24 HRL.out)
            have HZR := Kp.mk (size32 HRL.out)
            have HF := Kp.mk (U2.out.setRow R)
            have HBf := Kp.mk (Below.row U3.out (g := A) (Nat.le_refl _) (kv .u8 R).toArray)
            clear h8
            go_wp2_with (refine wpList_store_row rfl 37 (.tmp 4) (.tmp 64) rfl A (kv .u8 R).toArray rfl rfl 37 _ U2.out HCR.out HZR.out (kv_all _ _) ?_)
            refine bodyPost_ret (v := .agg (kv .u8 R).toArray) ?_ rfl ⟨by rw [HRR.out], by rw [← HA.out]; exact HBf.out⟩
            exact results_cell_row rfl _ _ A 37 _ (0, 0) _ rfl HF.out Tryd.underlying37 rfl HCR.out
end Go.Proofs.YtahmioiefmheeaaDoor

namespace Go.Proofs.YtahmioiefmheeaaDoor
open Go.RowKit

/-- How many blocks a tag takes. -/
def costI (k n : Int) : Int := (if 64 < k then blkI k else 0) + blkI n + 3
theorem blkI_bound (n : Int) (h0 : 0 ≤ n) (h : n ≤ 1000000) : 1 ≤ blkI n ∧ blkI n ≤ 20000 := by
  unfold blkI
  rw [if_neg (by omega)]
  split <;> omega
set_option maxRecDepth 100000 in
set_option maxHeartbeats 400000 in
theorem cost_any (k n : Int) (w : World) (h0 : 0 ≤ k) (h1 : k ≤ 1000000) (h2 : 0 ≤ n) (h3 : n ≤ 1000000) :
    Calls Tryd.prog 83 #[.int .i64 k, .int .i64 n] w fun r w' => r = .returned (.int .i64 (costI k n)) ∧ w' = w := by
  obtain ⟨b1, b2⟩ := blkI_bound n h2 h3
  obtain ⟨c1, c2⟩ := blkI_bound k h0 h1
  have HN : Kp (∀ w, Calls Tryd.prog 58 #[.int .i64 n] w fun r w' => r = .returned (.int .i64 (blkI n)) ∧ w' = w) := ⟨fun w => blocks_any n w (by omega)⟩
  have HK : Kp (∀ w, Calls Tryd.prog 58 #[.int .i64 k] w fun r w' => r = .returned (.int .i64 (blkI k)) ∧ w' = w) := ⟨fun w => blocks_any k w (by omega)⟩
  have HC : Kp (costI k n = (if 64 < k then blkI k else 0) + blkI n + 3) := ⟨rfl⟩
  generalize costI k n = C at *
  generalize blkI n = x at *
  generalize blkI k = y at *
  by_cases hb : 64 < k
  · have HC2 : Kp (C = y + x + 3) := ⟨by rw [HC.out, if_pos hb]⟩
    go_enter Tryd.func83, Tryd.ntmps83
    go_wp2_with fail
    refine (HN.out _).mono ?_
    rintro r w1 ⟨rfl, rfl⟩
    go_wp2_with fail
    refine (HK.out _).mono ?_
    rintro r w1 ⟨rfl, rfl⟩
    go_wp2_with fail
    go_ret
    exact ⟨reti (by rw [HC2.out]; omega), rfl⟩
  · have HC2 : Kp (C = x + 3) := ⟨by rw [HC.out, if_neg hb]; omega⟩
    go_enter Tryd.func83, Tryd.ntmps83
    go_wp2_with fail
    refine (HN.out _).mono ?_
    rintro r w1 ⟨rfl, rfl⟩
    go_wp2_with fail
    go_ret
    exact ⟨reti (by rw [HC2.out]; omega), rfl⟩
end Go.Proofs.YtahmioiefmheeaaDoor

namespace Go.Proofs.YtahmioiefmheeaaDoor
open Go.RowKit

/-- The example's key and message. -/
def jefe : List Int := [74, 101, 102, 101]
def want : List Int := [119, 104, 97, 116, 32, 100, 111, 32, 121, 97, 32, 119, 97, 110, 116, 32, 102, 111, 114, 32, 110, 111, 116, 104, 105, 110, 103, 63]
set_option maxRecDepth 100000 in
theorem jefe_hex : hexU ((macL jefe want).take 4) = [53, 98, 100, 99, 99, 49, 52, 54] := by decide +kernel
end Go.Proofs.YtahmioiefmheeaaDoor

namespace Go.Proofs.YtahmioiefmheeaaDoor
open Go.RowKit

set_option maxRecDepth 100000 in
theorem slice25_four (b : Nat) (w : World) : (Instr.sliceAt 118 (.pointer (some ⟨b, 0, none⟩)) none (some (.int .i64 4)) none).run Tryd.prog w = .ok (.slice (some ⟨b, 0, none⟩) 4 32) w := by
  have hl : Tryd.prog.arrayLen 118 = 32 := by kernel_rfl
  have he : Tryd.prog.elem 118 = 5 := by kernel_rfl
  rw [run_sliceAt_array_h (ht := Tryd.underlying118) (h0 := by omega) (h2 := by rw [hl]; omega), hl, he, size5]
  rfl
set_option maxRecDepth 100000 in
set_option maxHeartbeats 1000000 in
theorem awake5 (w : World) (hk : KonIs w) : Calls Tryd.prog 23 #[] w fun r w' => r = .returned (.bool true) ∧ Below w.heap.size w w' := by
  have HK := Kp.mk hk
  have hcv := fun (w : World) (C : Array Value) (n c : Nat) => Lib.run_convert_bytes_const (P := Tryd.prog) w 22 5 C n c Tryd.underlying22 Tryd.underlying5
  have hcv2 : ∀ (w : World) (O : Obj) (C : Array Value) (n c : Nat), (convert 22 22 (.slice (some ⟨w.heap.size + 1, 0, none⟩) n c)).run Tryd.prog ((w.alloc O).alloc (.cells C 5)) = .ok (.slice (some ⟨w.heap.size + 1, 0, none⟩) n c) ((w.alloc O).alloc (.cells C 5 (C.size, C.size + 1))) := fun w O C n c => by
    have h := hcv (w.alloc O) C n c
    rw [World.size_alloc] at h
    exact h
  clear hk
  go_enter Tryd.func23, Tryd.ntmps23
  go_wp2_with fail
  clear hcv hcv2
  refine calls_world (fun W => HoldsB W W.heap.size (.slice (some ⟨w.heap.size, 0, none⟩) 4 4) jefe ∧ HoldsB W W.heap.size (.slice (some ⟨w.heap.size + 1, 0, none⟩) 28 28) want ∧ Below w.heap.size w W)
    ⟨HoldsB.ofRow2 (off := 0) (l := jefe) (Blk.old (Blk.newAt (w := w) _ rfl) _) rfl (by decide) (by decide) (fun i hi => match i, hi with | 0, _ => rfl | 1, _ => rfl | 2, _ => rfl | 3, _ => rfl | i + 4, hi => absurd hi (by simp [jefe])) (by intro x hx; simp [jefe] at hx; omega),
      HoldsB.ofRow2 (off := 0) (l := want) (Blk.newAt (w := w.alloc _) _ (by simp)) rfl (by decide) (by decide) (fun i hi => by
        have hi : i < 28 := hi
        match i, hi with
        | 0, _ | 1, _ | 2, _ | 3, _ | 4, _ | 5, _ | 6, _ | 7, _ | 8, _ | 9, _ | 10, _ | 11, _ | 12, _ | 13, _ | 14, _ | 15, _ | 16, _ | 17, _ | 18, _ | 19, _ | 20, _ | 21, _ | 22, _ | 23, _ | 24, _ | 25, _ | 26, _ | 27, _ => rfl
        | i + 28, hi => omega) (by intro x hx; simp [want] at hx; omega),
      more (more (Below.refl _ _) _) _⟩ ?_
  rintro w1 ⟨h1, h1b, h2⟩
  have H2 := Kp.mk h2
  refine (mac_any _ _ _ _ jefe want w1 (HK.out.keep h2) h1 h1b (by decide) (by decide)).mono ?_
  rintro r w2 ⟨rfl, h3⟩
  have H3 : Kp (Below w.heap.size w w2) := ⟨h2.trans (h3.mono h2.size)⟩
  have HX := Kp.mk jefe_hex
  have HL : Kp ((macL jefe want).length = 32) := ⟨digest_len _⟩
  have HY : Kp (Bytes (macL jefe want)) := ⟨digest_bytes _⟩
  clear h1 h1b h2 h3
  generalize macL jefe want = d at *
  have HC25 := Kp.mk (cells25 HL.out)
  have HZ25 : Kp ((kv .u8 (fill 32 [])).toArray.size = (kv .u8 d).toArray.size) := ⟨by rw [kv_size, kv_size, HL.out]; rfl⟩
  obtain ⟨W, hW⟩ : ∃ W, W = (w2.alloc z25).setRow w2.heap.size (kv .u8 d).toArray := ⟨_, rfl⟩
  have HR : Kp (Row W w2.heap.size 118 .u8 d) := ⟨by rw [hW]; exact Row.setRow (k := .u8) (l := fill 32 []) (Blk.new w2 z25) _⟩
  have HB : Kp (Below w.heap.size w W) := ⟨by rw [hW]; exact Below.row (more H3.out z25) H3.out.size _⟩
  have hs := slice25_four
  go_wp2_with (refine wpList_store_row rfl 118 (.tmp 1) (.tmp 6) rfl w2.heap.size (kv .u8 d).toArray rfl rfl 118 _ (Blk.new w2 z25) HC25.out HZ25.out (kv_all _ _) ?_; refine wpl_world (· = W) hW.symm ?_; clear hW; intro W0 e; rw [e]; clear e)
  have HH : Kp (HoldsB W W.heap.size (.slice (some ⟨w2.heap.size, 0, none⟩) 4 32) (d.take 4)) := ⟨by
    refine HoldsB.ofRow2 (off := 0) HR.out (by rw [List.length_take, HL.out]; rfl) (by omega) (by decide) (fun i hi => ?_) (HY.out.take 4)
    have hi2 : i < 4 := by rw [List.length_take] at hi; omega
    have hi3 : i < d.length := by rw [HL.out]; omega
    simp [List.getElem?_eq_getElem hi3, List.getD_eq_getElem?_getD, hi2]⟩
  refine (hex_any _ _ (d.take 4) _ HH.out (by rw [List.length_take]; omega)).mono ?_
  rintro r w4 ⟨rfl, h4⟩
  have H4 : Kp (Below w.heap.size w w4) := ⟨HB.out.trans (h4.mono HB.out.size)⟩
  rw [HX.out]
  clear h4 hs
  go_wp2_with fail
  refine (cost_any 32 100 _ (by omega) (by omega) (by omega) (by omega)).mono ?_
  rintro r w5 ⟨rfl, rfl⟩
  rw [show costI 32 100 = 5 from by decide]
  go_wp2_with fail
  go_ret
  exact ⟨rfl, H4.out⟩
end Go.Proofs.YtahmioiefmheeaaDoor

namespace Go.Proofs.YtahmioiefmheeaaDoor
open Go.RowKit

theorem bv_cells {p : List Int} (h : Bytes p) : (p.map fun n => UInt8.ofNat n.toNat).map Extern.Stop.cell = kv .u8 p := by
  rw [List.map_map]
  refine List.map_congr_left fun x hx => ?_
  have := h x hx
  obtain ⟨m, rfl⟩ : ∃ m : Nat, x = m := ⟨x.toNat, by omega⟩
  simp only [Function.comp_def, Extern.Stop.cell, Int.toNat_natCast, UInt8.toNat_ofNat']
  congr 1
  have hm : m % 2 ^ 8 = m := Nat.mod_eq_of_lt (by omega)
  rw [hm]
  rfl
theorem eqIn25 {p : List Int} (hb : Bytes p) (h : p.length = 32) (w : World) : (Op.equalIn 10000 118 (.agg (kv .u8 p).toArray) (.agg (kv .u8 p).toArray)).run Tryd.prog w = .ok true w := by
  have := run_equalIn_bytes (P := Tryd.prog) w 9998 118 5 32 Tryd.underlying118 Tryd.underlying5 size5 (p.map fun n => UInt8.ofNat n.toNat) (p.map fun n => UInt8.ofNat n.toNat) (by simp [h]) (by simp [h])
  rw [bv_cells hb] at this
  simpa using this
/-- A sum, as a value. -/
abbrev dgV (p : List Int) : Value := .agg (kv .u8 p).toArray
theorem eql25 {p : List Int} (hb : Bytes p) (h : p.length = 32) (w : World) : (binOp .eql 118 (dgV p) (dgV p)).run Tryd.prog w = .ok (.bool true) w := by
  rw [run_eql_struct, eqIn25 hb h]; rfl
theorem neq25 {p : List Int} (hb : Bytes p) (h : p.length = 32) (w : World) : (binOp .neq 118 (dgV p) (dgV p)).run Tryd.prog w = .ok (.bool false) w := by
  rw [run_neq_struct, eqIn25 hb h]; rfl
theorem eqg25 (p q : List Int) (x y : Operand) (w : World) : (eqGuard .eql 118 x y (dgV p) (dgV q)).run Tryd.prog w = .ok () w := by kernel_rfl
theorem neg25 (p q : List Int) (x y : Operand) (w : World) : (eqGuard .neq 118 x y (dgV p) (dgV q)).run Tryd.prog w = .ok () w := by kernel_rfl
end Go.Proofs.YtahmioiefmheeaaDoor

namespace Go.Proofs.YtahmioiefmheeaaDoor
open Go.RowKit

set_option maxRecDepth 100000 in
set_option maxHeartbeats 1000000 in
theorem rtag_any (M N : Nat) (v u : Value) (k p : List Int) (w : World) (hp : HoldsB w M v k) (hq : HoldsB w N u p) (hlen : k.length ≤ 140737488351232) (hlen2 : p.length ≤ 140737488351300) :
    Calls Tryd.prog 93 #[v, u] w fun r w' => r = .returned (.agg (kv .u8 (halfL (macL k p))).toArray) ∧ Below w.heap.size w w' := by
  have HP := Kp.mk hp
  have HQ := Kp.mk hq
  have HL := Kp.mk hlen
  have HL2 := Kp.mk hlen2
  clear hp hq hlen hlen2
  go_enter Tryd.func93, Tryd.ntmps93
  go_wp2_with fail
  refine calls_world (fun W => Row W w.heap.size 32 .u8 (fill 16 []) ∧ Below w.heap.size w W) ⟨Blk.newAt (w := w) z49 rfl, more (Below.refl _ _) z49⟩ ?_
  rintro w1 ⟨hr, hb⟩
  have HR := Kp.mk hr
  have HB := Kp.mk hb
  clear hr hb
  refine (rmac_any M N v u k p w1 (HP.out.keep HB.out) (HQ.out.keep HB.out) HL.out HL2.out).mono ?_
  rintro r w2 ⟨rfl, h2⟩
  have HR2 := Kp.mk (HR.out.keep h2)
  have HB2 : Kp (Below w.heap.size w w2) := ⟨HB.out.trans (h2.mono HB.out.size)⟩
  have HM := Kp.mk (macL_len k p)
  obtain ⟨d, hd⟩ : ∃ d, d = macL k p := ⟨_, rfl⟩
  rw [← hd] at HM ⊢
  have HD := Kp.mk hd
  clear h2 hd
  go_wp2_with fail
  refine (rhalf_any d w2 HM.out).mono ?_
  rintro r w3 ⟨rfl, h3⟩
  have HR3 := Kp.mk (HR2.out.keep h3)
  have HB3 : Kp (Below w.heap.size w w3) := ⟨HB2.out.trans (h3.mono HB2.out.size)⟩
  have HC := Kp.mk (cells49 (halfL_len HM.out))
  have HZ := Kp.mk (size50 (halfL_len HM.out))
  have HF := Kp.mk (HR3.out.setRow (halfL d))
  have HBf := Kp.mk (Below.row HB3.out (g := w.heap.size) (Nat.le_refl _) (kv .u8 (halfL d)).toArray)
  clear h3
  go_wp2_with (refine wpList_store_row rfl 32 (.tmp 4) (.tmp 8) rfl w.heap.size (kv .u8 (halfL d)).toArray rfl rfl 32 _ HR3.out HC.out HZ.out (kv_all _ _) ?_)
  refine bodyPost_ret (v := .agg (kv .u8 (halfL d)).toArray) ?_ rfl ⟨by rw [HD.out], HBf.out⟩
  exact results_cell_row rfl _ _ w.heap.size 32 _ (0, 0) _ rfl HF.out Tryd.underlying32 rfl HC.out
theorem eqIn50 {p : List Int} (hb : Bytes p) (h : p.length = 16) (w : World) : (Op.equalIn 10000 33 (.agg (kv .u8 p).toArray) (.agg (kv .u8 p).toArray)).run Tryd.prog w = .ok true w := by
  have := run_equalIn_bytes (P := Tryd.prog) w 9998 33 5 16 Tryd.underlying33 Tryd.underlying5 size5 (p.map fun n => UInt8.ofNat n.toNat) (p.map fun n => UInt8.ofNat n.toNat) (by simp [h]) (by simp [h])
  rw [bv_cells hb] at this
  simpa using this
theorem eql50 {p : List Int} (hb : Bytes p) (h : p.length = 16) (w : World) : (binOp .eql 33 (dgV p) (dgV p)).run Tryd.prog w = .ok (.bool true) w := by
  rw [run_eql_struct, eqIn50 hb h]; rfl
theorem eqg50 (p q : List Int) (x y : Operand) (w : World) : (eqGuard .eql 33 x y (dgV p) (dgV q)).run Tryd.prog w = .ok () w := by kernel_rfl
end Go.Proofs.YtahmioiefmheeaaDoor

namespace Go.Proofs.YtahmioiefmheeaaDoor
open Go.RowKit

/-- A literal of one row of bytes. -/
theorem holds_one {w : World} {M : Nat} {a : Option Addr} {n c : Nat} {l : List Int} (h : HoldsB w M (.slice a n c) l) (hM : M ≤ w.heap.size) :
    HoldsP (w.alloc (.cells #[.slice a n c] 22)) (.slice (some ⟨w.heap.size, 0, none⟩) 1 1) [l] := by
  refine ⟨_, 1, rfl, by unfold maxLen; simp, fun i hi => ?_⟩
  have h0 : i = 0 := by simpa using hi
  subst h0
  refine ⟨w.heap.size, 0, a, n, c, rfl, by simp, ?_, ?_⟩
  · exact (Blk.new w (.cells #[.slice a n c] 22)).cell 0
  · have h2 := (h.mono hM).alloc (.cells #[.slice a n c] 22)
    exact h2.mono (by simp)
theorem eq33 (t : List Int) (w : World) : (binOp .eql 33 (dgV (shortL t)) (dgV (shortL t))).run Tryd.prog w = .ok (.bool true) w := eql50 (shortL_bytes t) (shortL_len t) w
set_option maxRecDepth 100000 in
set_option maxHeartbeats 1000000 in
theorem macShorts_walk (x0 : Int) (a1 : Option Addr) (len1 cap1 : Nat) (z1 : List (List Int)) (w : World) (w0 : (Lit.int .u8 x0).wf = true) (w1 : HoldsP w (.slice a1 len1 cap1) z1) (g1 : z1.flatten.length ≤ 1048576) (hk : KonIs w) :
    Calls Tryd.prog 4 #[.int .u8 x0, .slice a1 len1 cap1] w fun e w' => e = .returned (.bool true) ∧ Below w.heap.size w w' := by
  have h8 : 0 ≤ x0 ∧ x0 ≤ 255 := by
    have h1 : IntKind.u8.min = 0 := rfl
    have h2 : IntKind.u8.max = 255 := rfl
    simpa [Lit.wf, h1, h2] using w0
  have hl : z1.length = len1 := by obtain ⟨a', n', c', e, hn⟩ := w1.slice; simp only [Value.slice.injEq] at e; omega
  have hlm : len1 ≤ maxLen := by obtain ⟨_, _, _, h2, _⟩ := w1; omega
  unfold maxLen at hlm
  have H8 := Kp.mk h8
  have HP := Kp.mk w1
  have HL := Kp.mk hl
  have HG := Kp.mk g1
  have HK := Kp.mk hk
  clear h8 w0 w1 hl g1 hk
  go_enter Tryd.func4, Tryd.ntmps4
  go_wp2_with fail
  obtain ⟨A, hA⟩ : ∃ A, A = w.heap.size := ⟨_, rfl⟩
  have HA := Kp.mk hA
  clear hA
  go_loopw [5, 10] (fun s5 c wr => ∃ (i N : Nat) (a5 : Option Addr) (c5 : Nat), i ≤ len1 ∧ c = .int .i64 i ∧ s5 = .slice a5 N c5 ∧ Kp (N = (z1.take i).flatten.length) ∧ wr.ownsRow A 5 1 (.slice a5 N c5) N (bv (z1.take i).flatten) ∧ Below A w wr) (fun _ c _ => len1 - (intOf c).toNat)
  case atStart => exact ⟨0, 0, none, 0, by omega, rfl, rfl, ⟨by simp⟩, by simpa using World.ownsRow_nil _ _ _ _, by rw [HA.out]; exact Below.refl _ _⟩
  case round =>
    obtain ⟨i, N, a5, c5, hi, rfl, rfl, HNN, h1, h2⟩ := hrel
    have G1 := Kp.mk h1
    have G2 := Kp.mk h2
    have HSz : Kp (A ≤ wr.heap.size) := ⟨by have := h2.size; have := HA.out; omega⟩
    clear h1 h2
    by_cases hlt : i < len1
    · obtain ⟨b, off, a2, n2, c2, rfl, hbw, hcell, hp⟩ : ∃ b off a2 n2 c2, a1 = some ⟨b, off, none⟩ ∧ b < w.heap.size ∧ w.cell? ⟨b, off + i, none⟩ = some (.slice a2 n2 c2) ∧ HoldsB w w.heap.size (.slice a2 n2 c2) (z1.getD i []) := by
        obtain ⟨a', cap', e, _, h3⟩ := HP.out
        simp only [Value.slice.injEq] at e
        obtain ⟨rfl, -, -⟩ := e
        obtain ⟨b, off, a1, n1, c1, e1, e2, e3, e4⟩ := h3 i (by rw [HL.out]; exact hlt)
        exact ⟨b, off, a1, n1, c1, e1, e2, e3, e4⟩
      have hc : wr.cell? ⟨b, off + i, none⟩ = some (.slice a2 n2 c2) := (World.cell?_of_block (w := w) (a := ⟨b, off + i, none⟩) (G2.out.block b (by rw [HA.out]; exact hbw))).trans hcell
      have HPp : Kp (HoldsB wr w.heap.size (.slice a2 n2 c2) (z1.getD i [])) := ⟨hp.keep (by rw [← HA.out]; exact G2.out)⟩
      have HFT := Kp.mk (flat_take z1 i (by rw [HL.out]; exact hlt))
      have HF2 := Kp.mk (flat_le2 z1 i (by rw [HL.out]; exact hlt))
      clear hcell hbw hp
      generalize z1.getD i [] = p at *
      generalize hQ : (z1.take i).flatten = q at *
      have HQq := Kp.mk hQ
      clear hQ
      have hN : N + p.length ≤ 1048576 := by have := HF2.out; have := HG.out; have := HNN.out; omega
      have hNb : N ≤ 1048576 := by omega
      have HN2 := Kp.mk hN
      clear hN
      go_wp2_with (at_builtin; refine wpList_append_holds rfl _ _ rfl A _ _ _ rfl G1.out _ _ p rfl HPp.out ?d0 ?d1 ?_)
      case d0 => have := HN2.out; omega
      case d1 => exact HSz.out
      intro v2 w2 ho hg
      have hbel : Below A w w2 := G2.out.trans (below_row_grown (Below.refl _ _) HSz.out G1.out hg)
      obtain ⟨L2, hL2⟩ : ∃ L2, L2 = N + p.length := ⟨_, rfl⟩
      have ho2 : w2.ownsRow A 5 1 v2 L2 (bv (z1.take (i + 1)).flatten) := by
        rw [HFT.out, hL2]
        simpa using ho
      obtain ⟨a3, c3, rfl⟩ := row_slice ho2
      have HO2 := Kp.mk ho2
      have HB2 := Kp.mk hbel
      have HL2 : Kp (L2 = (z1.take (i + 1)).flatten.length) := ⟨by rw [HFT.out, List.length_append]; have := HNN.out; omega⟩
      clear ho hg hbel ho2 hL2 hc
      go_wp2_with fail
      exact ⟨⟨i + 1, L2, a3, c3, by omega, by go_num, rfl, HL2, HO2.out, HB2.out⟩, by simp [intOf]; omega⟩
    · have hge : (len1 : Int) ≤ i := by omega
      have HO : Kp (HoldsB wr wr.heap.size (.slice a5 N c5) z1.flatten) := ⟨by
        have h := G1.out
        have e0 : z1.take i = z1 := List.take_of_length_le (by have := HL.out; omega)
        have hN := HNN.out
        rw [e0] at h hN
        have h2 := HoldsB.ofRow (l := z1.flatten) HP.out.flat (by rw [hN] at h; exact h)
        rw [hN]
        exact h2⟩
      have HB := G2
      clear hlt hi
      have hwr : ∀ W, Below A wr W → Below w.heap.size w W := fun W h => by rw [← HA.out]; exact HB.out.trans h
      have HW := Kp.mk hwr
      clear hwr
      go_wp2_with fail
      refine (awake5 wr (HK.out.keep (HW.out _ (Below.refl _ _)))).mono ?_
      rintro r wa ⟨rfl, h1⟩
      have B1 : Kp (Below wr.heap.size wr wa) := ⟨h1⟩
      clear h1
      go_wp2_with fail
      refine (short_any x0 a1 len1 cap1 z1 wa (HK.out.keep (HW.out _ (B1.out.mono HSz.out))) H8.out (HP.out.keep (HW.out _ (B1.out.mono HSz.out))) (by have := HG.out; omega)).mono ?_
      rintro r wb ⟨rfl, h2⟩
      have B2 : Kp (Below wr.heap.size wr wb) := ⟨B1.out.trans (h2.mono B1.out.size)⟩
      clear h2
      go_wp2_with fail
      refine (rshort_any x0 a1 len1 cap1 z1 wb H8.out (HP.out.keep (HW.out _ (B2.out.mono HSz.out))) (by have := HG.out; omega)).mono ?_
      rintro r wc ⟨rfl, h3⟩
      have B3 : Kp (Below wr.heap.size wr wc) := ⟨B2.out.trans (h3.mono B2.out.size)⟩
      clear h3
      have HQ := Kp.mk (eq33 (x0 :: z1.flatten))
      obtain ⟨d, hd⟩ : ∃ d, d = shortL (x0 :: z1.flatten) := ⟨_, rfl⟩
      have HD := Kp.mk hd
      rw [← hd] at HQ ⊢
      have hq := HQ.out
      have hg := eqg50
      clear hd
      go_wp2_with fail
      clear hq hg
      have HO3 : Kp (HoldsP (wc.alloc (.cells #[.slice a5 N c5] 22)) (.slice (some ⟨wc.heap.size, 0, none⟩) 1 1) [z1.flatten]) := ⟨holds_one (HO.out.keep B3.out) B3.out.size⟩
      have B3a : Kp (Below wr.heap.size wr (wc.alloc (.cells #[.slice a5 N c5] 22))) := ⟨B3.out.alloc B3.out.size _⟩
      generalize wc.alloc (.cells #[.slice a5 N c5] 22) = WC at *
      refine (short_any x0 _ 1 1 [z1.flatten] WC (HK.out.keep (HW.out _ (B3a.out.mono HSz.out))) H8.out HO3.out (by simp; have := HG.out; simp at this; omega)).mono ?_
      rintro r wd ⟨rfl, h4⟩
      have B4 : Kp (Below wr.heap.size wr wd) := ⟨B3a.out.trans (h4.mono B3a.out.size)⟩
      have HF1 : Kp ([z1.flatten].flatten = z1.flatten) := ⟨by simp⟩
      clear h4
      rw [HF1.out, ← HD.out]
      go_wp2_with fail
      refine (short_any x0 a1 len1 cap1 z1 wd (HK.out.keep (HW.out _ (B4.out.mono HSz.out))) H8.out (HP.out.keep (HW.out _ (B4.out.mono HSz.out))) (by have := HG.out; omega)).mono ?_
      rintro r we ⟨rfl, h5⟩
      have B5 : Kp (Below wr.heap.size wr we) := ⟨B4.out.trans (h5.mono B4.out.size)⟩
      clear h5
      rw [← HD.out]
      have hq := HQ.out
      have hg := eqg50
      go_wp2_with fail
      clear hq hg
      go_ret
      exact ⟨rfl, HW.out _ (B5.out.mono HSz.out)⟩
end Go.Proofs.YtahmioiefmheeaaDoor
