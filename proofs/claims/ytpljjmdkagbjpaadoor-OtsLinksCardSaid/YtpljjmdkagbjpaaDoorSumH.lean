/-
  (*sha.Hash).Sum and sha.Sum.
-/
import Derived.Test.YtpljjmdkagbjpaaDoorEnd
import Derived.Deep.MidRow
namespace Go.Proofs.YtpljjmdkagbjpaaDoor
open Go.RowKit

theorem bytes_get (s : St) (i j : Nat) (hi : i < 8) (hj : j < 4) : s.bytes.getD (4 * i + j) 0 = s.list.getD i 0 / 2 ^ (24 - 8 * j) % 256 := by
  match j, hj with
  | 0, _ =>
    match i, hi with
    | 0, _ => rfl
    | 1, _ => rfl
    | 2, _ => rfl
    | 3, _ => rfl
    | 4, _ => rfl
    | 5, _ => rfl
    | 6, _ => rfl
    | 7, _ => rfl
  | 1, _ =>
    match i, hi with
    | 0, _ => rfl
    | 1, _ => rfl
    | 2, _ => rfl
    | 3, _ => rfl
    | 4, _ => rfl
    | 5, _ => rfl
    | 6, _ => rfl
    | 7, _ => rfl
  | 2, _ =>
    match i, hi with
    | 0, _ => rfl
    | 1, _ => rfl
    | 2, _ => rfl
    | 3, _ => rfl
    | 4, _ => rfl
    | 5, _ => rfl
    | 6, _ => rfl
    | 7, _ => rfl
  | 3, _ =>
    match i, hi with
    | 0, _ => exact (show s.a % 256 = s.a / 1 % 256 by rw [Int.ediv_one])
    | 1, _ => exact (show s.b % 256 = s.b / 1 % 256 by rw [Int.ediv_one])
    | 2, _ => exact (show s.c % 256 = s.c / 1 % 256 by rw [Int.ediv_one])
    | 3, _ => exact (show s.d % 256 = s.d / 1 % 256 by rw [Int.ediv_one])
    | 4, _ => exact (show s.e % 256 = s.e / 1 % 256 by rw [Int.ediv_one])
    | 5, _ => exact (show s.f % 256 = s.f / 1 % 256 by rw [Int.ediv_one])
    | 6, _ => exact (show s.g % 256 = s.g / 1 % 256 by rw [Int.ediv_one])
    | 7, _ => exact (show s.h % 256 = s.h / 1 % 256 by rw [Int.ediv_one])
theorem bytes_step (s : St) (k : Nat) (h : k < 32) : s.bytes.take (k + 1) = s.bytes.take k ++ [s.bytes.getD k 0] := by
  rw [List.take_succ_eq_append_getElem (by rw [bytes_len]; exact h), List.getD_eq_getElem?_getD, List.getElem?_eq_getElem (by rw [bytes_len]; exact h)]
  rfl
theorem be32_bytes (n : Int) : Bytes (be32 n) := by
  intro x hx
  simp [be32] at hx
  omega
theorem bytes_bytes (s : St) : Bytes s.bytes :=
  (((((((be32_bytes _).append (be32_bytes _)).append (be32_bytes _)).append (be32_bytes _)).append (be32_bytes _)).append (be32_bytes _)).append (be32_bytes _)).append (be32_bytes _)
theorem info77 : (Tryd.prog.info? 145).map (·.size) = some 73 := by kernel_rfl
theorem info68 : (Tryd.prog.info? 142).map (·.size) = some 8 := by kernel_rfl
theorem info25 : (Tryd.prog.info? 95).map (·.size) = some 32 := by kernel_rfl
theorem cells25 {l : List Int} (h : l.length = 32) : (Tryd.prog.info? 95).map (·.size) = some (kv .u8 l).toArray.size := by rw [info25, kv_size, h]
theorem hash_all (sl rest : List Int) (n : Int) : (hashCells sl rest n).toArray.all (·.oneCell') = true := Array.all_eq_true_iff_forall_mem.2 fun v hv => by
  have hv : v ∈ hashCells sl rest n := by simpa using hv
  unfold hashCells at hv
  rcases List.mem_append.1 hv with hv | hv
  · obtain ⟨x, _, rfl⟩ := List.mem_map.1 hv; rfl
  · rcases List.mem_append.1 hv with hv | hv
    · obtain ⟨x, _, rfl⟩ := List.mem_map.1 hv; rfl
    · simp at hv; subst hv; rfl
abbrev z25 : Obj := .cells (kv .u8 (fill 32 [])).toArray 95
/-- The numbers of a state, as the cells of an array. -/
abbrev stv (s : St) : List Value := [.int .u32 s.a, .int .u32 s.b, .int .u32 s.c, .int .u32 s.d, .int .u32 s.e, .int .u32 s.f, .int .u32 s.g, .int .u32 s.h]
theorem calls_world {P : Program} {f : FuncId} {args : Array Value} {w : World} {R : Ending → World → Prop} (F : World → Prop) (hF : F w) (h : ∀ w2, F w2 → Calls P f args w2 R) : Calls P f args w R := h w hF
theorem pad_state {w : World} {b : Nat} {l : List Int} (h : HashIs w b (pad l)) : w.rangeAt b 0 (stv (sumSt l)) := by
  obtain ⟨rest, h1, h2, h3, h4⟩ := h
  intro j v hv
  rw [h4.cell, Nat.zero_add]
  have hj : j < 8 := (List.getElem?_eq_some_iff.1 hv).1
  have e : (pad l).length / 64 = blocks l.length := by rw [pad_len]; omega
  rw [e] at h4 ⊢
  have h5 : stv (sumSt l) = kv .u32 (absorb (pad l) (blocks l.length)).list := rfl
  rw [h5] at hv
  unfold hashCells
  rw [List.getElem?_toArray, List.getElem?_append_left (by rw [List.length_map, list_len]; exact hj)]
  exact hv
set_option maxRecDepth 100000 in
set_option maxHeartbeats 1000000 in
theorem hsum_any (b : Nat) (l : List Int) (w : World) (hk : KonIs w) (_h0 : 0 < b) (hH : HashIs w b l) (hlen : l.length ≤ 999999999999000) :
    Calls Tryd.prog 70 #[.pointer (some ⟨b, 0, none⟩)] w fun r w' => r = .returned (.agg (kv .u8 (digest l)).toArray) ∧ Below w.heap.size w w' := by
  have HK := Lib.hid hk
  have HL := Lib.hid hlen
  have HLt := Lib.hid hH.lt
  obtain ⟨rest, hr1, hr2, hr3, hB⟩ := hH
  have HR1 := Lib.hid hr1
  have HR2 := Lib.hid hr2
  have HR3 := Lib.hid hr3
  have HB := Lib.hid hB
  have HC := Kp.mk (info77.trans (congrArg some (hash_size (n := (l.length : Int)) (list_len (absorb l (l.length / 64))) hr1).symm))
  have HZ : Kp (Tryd.zeroCells145.size = (hashCells (absorb l (l.length / 64)).list rest l.length).toArray.size) := ⟨by rw [hash_size (list_len _) hr1]; kernel_rfl⟩
  clear hk hlen hr1 hr2 hr3 hB
  obtain ⟨C, hC⟩ : ∃ C, C = (hashCells (absorb l (l.length / 64)).list rest l.length).toArray := ⟨_, rfl⟩
  have HCd := Kp.mk hC
  have HA : Kp (C.all (·.oneCell') = true) := ⟨by rw [hC]; exact hash_all _ _ _⟩
  have HB' : Hid (Blk w b (.cells C 145)) := by rw [hC]; exact HB.out
  rw [← hC] at HC HZ
  clear hC HB
  go_enter Tryd.func70, Tryd.ntmps70
  go_wp2_with (first
    | (refine wpList_load_row rfl 145 (.tmp 12) rfl b rfl 145 C (0, 0) _ (Blk.old HB'.out _) Tryd.underlying145 rfl HC.out ?_)
    | (refine wpList_store_row rfl 145 (.tmp 3) (.tmp 13) rfl (w.heap.size + 1) C rfl rfl 145 Tryd.zeroCells145 (Blk.newAt _ (by simp)) HC.out HZ.out HA.out ?_))
  refine calls_world (fun W => HashIs W (w.heap.size + 1) l ∧ Row W w.heap.size 95 .u8 (fill 32 []) ∧ Below w.heap.size w W)
    ⟨⟨rest, HR1.out, HR2.out, HR3.out, by have h := Blk.setRow (Blk.newAt (w := w.alloc z25) (b := w.heap.size + 1) (.cells Tryd.zeroCells145 145) (by simp)) C; rw [HCd.out] at h ⊢; exact h⟩,
      Row.otherRow (Row.alloc (Blk.newAt (w := w) z25 rfl) _) (by omega) _, Below.row (more (more (Below.refl _ _) z25) _) (by omega) _⟩ ?_
  rintro w2 ⟨hh, hr, hb⟩
  have HRo := Kp.mk hr
  have HBe := Kp.mk hb
  refine (end_any (w.heap.size + 1) l w2 (HK.out.keep hb) (by omega) hh HL.out).mono ?_
  rintro r w5 ⟨rfl, h5⟩
  have HR5 : Kp (Row w5 w.heap.size 95 .u8 (fill 32 [])) := by
    obtain ⟨rest', _, _, _, q4⟩ := h5
    exact ⟨q4.keep hr (by omega)⟩
  have HB5 : Kp (Below w.heap.size w w5) := by
    obtain ⟨rest', _, _, _, q4⟩ := h5
    exact ⟨hb.trans (q4.below (by omega) hb.size)⟩
  have HS5 := Kp.mk (pad_state h5.is)
  have HI5 := Kp.mk h5.is
  have H68 : Kp ((Tryd.prog.info? 142).map (·.size) = some (stv (sumSt l)).length) := ⟨info68⟩
  clear hh hr hb h5 HRo HBe
  go_wp2_with (refine wpList_load_mid rfl 142 (.tmp 15) rfl (w.heap.size + 1) 0 rfl (stv (sumSt l)) _ (fun j v hv => (Blk.cell (Blk.old (HI5.out.choose_spec.2.2.2) _) _).trans ((Blk.cell (HI5.out.choose_spec.2.2.2) _).symm.trans (HS5.out j v hv))) Tryd.underlying142 rfl H68.out ?_)
  obtain ⟨A, hA⟩ : ∃ A, A = w.heap.size := ⟨_, rfl⟩
  obtain ⟨D, hD⟩ : ∃ D, D = w5.heap.size := ⟨_, rfl⟩
  have hAD : A < D := by have h1 := HI5.out.choose_spec.2.2.2.lt; omega
  rw [← hA, ← hD]
  have HAe := Kp.mk hA
  refine wp_world (fun W => Row W D 95 .u8 (fill 32 ((sumSt l).bytes.take (4 * 0))) ∧ Row W A 95 .u8 (fill 32 []) ∧ Below A w W) ⟨by rw [hD]; exact Blk.new w5 z25, by rw [hA]; exact HR5.out.alloc _, by rw [hA]; exact (HB5.out.alloc HB5.out.size _)⟩ ?_
  rintro w6 ⟨h1, h2, h3⟩
  have H1 := Kp.mk h1
  have H2 := Kp.mk h2
  have H3 := Kp.mk h3
  have HD32 : Kp ((sumSt l).bytes = digest l) := ⟨rfl⟩
  clear h1 h2 h3 hA hD HR5 HB5 HS5 HI5 H68
  generalize sumSt l = S at *
  go_loopw [17] (fun c wr => ∃ i : Nat, i ≤ 8 ∧ c = .int .i64 i ∧ Row wr D 95 .u8 (fill 32 (S.bytes.take (4 * i))) ∧ Row wr A 95 .u8 (fill 32 []) ∧ Below A w wr) (fun c _ => 8 - (intOf c).toNat)
  case atStart => exact ⟨0, by omega, rfl, H1.out, H2.out, H3.out⟩
  case round =>
    obtain ⟨i, hi, rfl, h1, h2, h3⟩ := hrel
    have G1 := Kp.mk h1
    have G2 := Kp.mk h2
    have G3 := Kp.mk h3
    clear h1 h2 h3 H1 H2 H3
    by_cases hlt : i < 8
    · have hidx := index68 S i hlt
      generalize hx : S.list.getD i 0 = x at *
      have HX := Kp.mk hx
      clear hx
      go_wp2_with fail
      clear hidx
      go_loopw [21] (fun c wq => ∃ j : Nat, j ≤ 4 ∧ c = .int .i64 j ∧ Row wq D 95 .u8 (fill 32 (S.bytes.take (4 * i + j))) ∧ Row wq A 95 .u8 (fill 32 []) ∧ Below A w wq) (fun c _ => 4 - (intOf c).toNat)
      case atStart => exact ⟨0, by omega, rfl, G1.out, G2.out, G3.out⟩
      case round =>
        obtain ⟨j, hj, rfl, h1, h2, h3⟩ := hrel
        have F1 := Kp.mk h1
        have F2 := Kp.mk h2
        have F3 := Kp.mk h3
        clear h1 h2 h3 G1 G2 G3
        by_cases hlj : j < 4
        · have hl : (S.bytes.take (4 * i + j)).length = 4 * i + j := by rw [List.length_take, bytes_len]; omega
          have cw := F1.out.cell (i := 4 * i + j) (by rw [fill_len (by omega)]; omega)
          have fw := F1.out.frozen (4 * i + j)
          have HL2 := Kp.mk hl
          clear hl
          go_wp2_with fail
          refine ⟨⟨j + 1, by omega, by go_num, ?_, F2.out.other (by show D ≠ A; omega) _, F3.out.setCell (by show A ≤ D; omega) _⟩, by simp [intOf]; omega⟩
          refine (F1.out.set (4 * i + j) _).as ?_
          rw [← Nat.add_assoc, bytes_step S (4 * i + j) (by omega), bytes_get S i j hlt hlj, HX.out, ← fill_set (by rw [HL2.out]; omega), HL2.out]
        · have HJ : Kp (j = 4) := ⟨by omega⟩
          have hge : 4 ≤ (j : Int) := by omega
          clear hlj hj
          go_wp2_with fail
          refine ⟨⟨i + 1, by omega, by go_num, ?_, F2.out, F3.out⟩, by simp [intOf]; omega⟩
          have h := F1.out
          rw [HJ.out] at h
          exact h
    · have HI : Kp (i = 8) := ⟨by omega⟩
      have hge : 8 ≤ (i : Int) := by omega
      have HR : Kp (Row wr D 95 .u8 (digest l)) := by
        have h := G1.out
        rw [HI.out, List.take_of_length_le (by rw [bytes_len]; omega), fill_full (bytes_len S), HD32.out] at h
        exact ⟨h⟩
      have HC25 := Kp.mk (cells25 (digest_len l))
      have HZ25 : Kp ((kv .u8 (fill 32 [])).toArray.size = (kv .u8 (digest l)).toArray.size) := ⟨by rw [kv_size, kv_size, digest_len]; rfl⟩
      have HF := Kp.mk (G2.out.setRow (digest l))
      have HBf := Kp.mk (Below.row G3.out (g := A) (Nat.le_refl _) (kv .u8 (digest l)).toArray)
      clear hlt hi G1
      go_wp2_with (first
        | (refine wpList_load_row rfl 95 (.tmp 4) rfl D rfl 95 (kv .u8 (digest l)).toArray (0, 0) _ HR.out Tryd.underlying95 rfl HC25.out ?_)
        | (refine wpList_store_row rfl 95 (.tmp 2) (.tmp 37) rfl A (kv .u8 (digest l)).toArray rfl rfl 95 _ G2.out HC25.out HZ25.out (kv_all _ _) ?_))
      refine bodyPost_ret (v := .agg (kv .u8 (digest l)).toArray) ?_ rfl ⟨rfl, by rw [← HAe.out]; exact HBf.out⟩
      exact results_cell_row rfl _ _ A 95 _ (0, 0) _ rfl HF.out Tryd.underlying95 rfl HC25.out
theorem HoldsB.own {w : World} {M : Nat} {v : Value} {l : List Int} (h : HoldsB w M v l) : HoldsB w w.heap.size v l := by
  obtain ⟨a, cap, h1, h2, h3, h4, h5, h6, h7⟩ := h
  exact ⟨a, cap, h1, h2, h3, h4, fun x hx h0 => ⟨(h5 x hx h0).1, (h5 x hx h0).2.2, (h5 x hx h0).2.2⟩, h6, h7⟩
/-- Bytes that were there ahead of block b. -/
theorem HoldsB.apart {w w' : World} {M b : Nat} {v : Value} {l : List Int} (h : HoldsB w M v l) (hb : Below w.heap.size w w') (hle : w.heap.size ≤ b) : HoldsX w' b v l := by
  refine ⟨(h.own.keep hb).mono hb.size, ?_⟩
  obtain ⟨a, cap, rfl, h2, h3, h4, h5, h6, h7⟩ := h
  intro x n c he h0
  simp only [Value.slice.injEq] at he
  have := (h5 x he.1 (by omega)).2.2
  show x.block ≠ b
  omega
set_option maxRecDepth 100000 in
set_option maxHeartbeats 400000 in
/-- sha.Sum. -/
theorem sum_any (M : Nat) (v : Value) (p : List Int) (w : World) (hk : KonIs w) (hp : HoldsB w M v p) (hlen : p.length ≤ 999999999999000) :
    Calls Tryd.prog 109 #[v] w fun r w' => r = .returned (.agg (kv .u8 (digest p)).toArray) ∧ Below w.heap.size w w' := by
  have HK := Kp.mk hk
  have HP := Kp.mk hp
  have HL := Kp.mk hlen
  have HC25 := Kp.mk (cells25 (digest_len p))
  have HZ25 : Kp ((kv .u8 (fill 32 [])).toArray.size = (kv .u8 (digest p)).toArray.size) := ⟨by rw [kv_size, kv_size, digest_len]; rfl⟩
  have hpos := hk.pos
  have HPo := Kp.mk hpos
  clear hk hp hlen hpos
  go_enter Tryd.func109, Tryd.ntmps109
  go_wp2_with fail
  refine calls_world (fun W => Row W w.heap.size 95 .u8 (fill 32 []) ∧ Below w.heap.size w W ∧ w.heap.size < W.heap.size) ⟨Blk.newAt (w := w) z25 rfl, more (Below.refl _ _) z25, by simp⟩ ?_
  rintro w1 ⟨hr, hb, hs⟩
  have HR := Kp.mk hr
  have HB := Kp.mk hb
  have HS := Kp.mk hs
  clear hr hb hs
  refine (new_any w1).mono ?_
  rintro r w2 ⟨rfl, hh, hb⟩
  have HH := Kp.mk hh
  have HB2 := Kp.mk hb
  have HX : Kp (HoldsX w2 w1.heap.size v p) := ⟨HP.out.apart (HB.out.trans (hb.mono HB.out.size)) HB.out.size⟩
  clear hh hb
  go_wp2_with fail
  refine (write_any w1.heap.size [] p v w2 ((HK.out.keep HB.out).keep HB2.out) (by have := HS.out; omega) HH.out HX.out (by have := HL.out; simp; omega)).mono ?_
  rintro r w3 ⟨rfl, h3⟩
  have H3 := Kp.mk h3
  have HT3 : Kp (Below w1.heap.size w1 w3) := by
    obtain ⟨_, _, _, _, q⟩ := h3
    exact ⟨HB2.out.trans (q.below (Nat.le_refl _) HB2.out.size)⟩
  clear h3
  go_wp2_with fail
  refine (hsum_any w1.heap.size p w3 ((HK.out.keep HB.out).keep HT3.out) (by have := HS.out; omega) H3.out.is HL.out).mono ?_
  rintro r w4 ⟨rfl, h4⟩
  have HB4 : Kp (Below w1.heap.size w1 w4) := ⟨HT3.out.trans (h4.mono HT3.out.size)⟩
  have HR4 := Kp.mk (HR.out.keep HB4.out)
  have HF := Kp.mk (HR4.out.setRow (digest p))
  have HBf := Kp.mk (Below.row (HB.out.trans (HB4.out.mono HB.out.size)) (g := w.heap.size) (Nat.le_refl _) (kv .u8 (digest p)).toArray)
  clear h4
  go_wp2_with (refine wpList_store_row rfl 95 (.tmp 2) (.tmp 9) rfl w.heap.size (kv .u8 (digest p)).toArray rfl rfl 95 _ HR4.out HC25.out HZ25.out (kv_all _ _) ?_)
  refine bodyPost_ret (v := .agg (kv .u8 (digest p)).toArray) ?_ rfl ⟨rfl, HBf.out⟩
  exact results_cell_row rfl _ _ w.heap.size 95 _ (0, 0) _ rfl HF.out Tryd.underlying95 rfl HC25.out
end Go.Proofs.YtpljjmdkagbjpaaDoor
