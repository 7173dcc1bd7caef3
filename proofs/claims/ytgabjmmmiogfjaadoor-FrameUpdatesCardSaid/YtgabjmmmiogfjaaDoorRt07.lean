/-
  (*sha.Hash).Sum and sha.Sum.
  (Nothing of the examples is wanted here.)
  The laws' awake: the standard's example.
  Tags: plain lists; mac.keyBlock, mac.overlaid, mac.sum.
  mac.sum, mac.keyBlock.
  mac.keyBlock.
  mac.Mac.
  mac.half, mac.Tag.
  mac.Tag, the document's Half.
  The document's Pad.
-/
import Derived.Test.YtgabjmmmiogfjaaDoorRt06
import Derived.Deep.MidRow
import Derived.Deep.RegionLaw
import Derived.Laws.CopyOwn
namespace Go.Proofs.YtgabjmmmiogfjaaDoor
open Go.RowKit

theorem bytes_get (s : St) (i j : Nat) (hi : i < 8) (hj : j < 4) : s.bytes.getD (4 * i + j) 0 = s.list.getD i 0 / 2 ^ (24 - 8 * j) % 256 := by
  match j, hj with
  | 0, _ =>
    match i, hi with
    | 0, _ => rfl
    | 1, _ => rfl
    | 2, _ => rfl
    | 3, _ => rfl
    | 4, _ => rfl
    | 5, _ => rfl
    | 6, _ => rfl
    | 7, _ => rfl
  | 1, _ =>
    match i, hi with
    | 0, _ => rfl
    | 1, _ => rfl
    | 2, _ => rfl
    | 3, _ => rfl
    | 4, _ => rfl
    | 5, _ => rfl
    | 6, _ => rfl
    | 7, _ => rfl
  | 2, _ =>
    match i, hi with
    | 0, _ => rfl
    | 1, _ => rfl
    | 2, _ => rfl
    | 3, _ => rfl
    | 4, _ => rfl
    | 5, _ => rfl
    | 6, _ => rfl
    | 7, _ => rfl
  | 3, _ =>
    match i, hi with
    | 0, _ => exact (show s.a % 256 = s.a / 1 % 256 by rw [Int.ediv_one])
    | 1, _ => exact (show s.b % 256 = s.b / 1 % 256 by rw [Int.ediv_one])
    | 2, _ => exact (show s.c % 256 = s.c / 1 % 256 by rw [Int.ediv_one])
    | 3, _ => exact (show s.d % 256 = s.d / 1 % 256 by rw [Int.ediv_one])
    | 4, _ => exact (show s.e % 256 = s.e / 1 % 256 by rw [Int.ediv_one])
    | 5, _ => exact (show s.f % 256 = s.f / 1 % 256 by rw [Int.ediv_one])
    | 6, _ => exact (show s.g % 256 = s.g / 1 % 256 by rw [Int.ediv_one])
    | 7, _ => exact (show s.h % 256 = s.h / 1 % 256 by rw [Int.ediv_one])
theorem bytes_step (s : St) (k : Nat) (h : k < 32) : s.bytes.take (k + 1) = s.bytes.take k ++ [s.bytes.getD k 0] := by
  rw [List.take_succ_eq_append_getElem (by rw [bytes_len]; exact h), List.getD_eq_getElem?_getD, List.getElem?_eq_getElem (by rw [bytes_len]; exact h)]
  rfl
theorem be32_bytes (n : Int) : Bytes (be32 n) := by
  intro x hx
  simp [be32] at hx
  omega
theorem bytes_bytes (s : St) : Bytes s.bytes :=
  (((((((be32_bytes _).append (be32_bytes _)).append (be32_bytes _)).append (be32_bytes _)).append (be32_bytes _)).append (be32_bytes _)).append (be32_bytes _)).append (be32_bytes _)
theorem info77 : (Tryd.prog.info? 174).map (·.size) = some 73 := by kernel_rfl
theorem info68 : (Tryd.prog.info? 168).map (·.size) = some 8 := by kernel_rfl
theorem info25 : (Tryd.prog.info? 80).map (·.size) = some 32 := by kernel_rfl
theorem cells25 {l : List Int} (h : l.length = 32) : (Tryd.prog.info? 80).map (·.size) = some (kv .u8 l).toArray.size := by rw [info25, kv_size, h]
theorem hash_all (sl rest : List Int) (n : Int) : (hashCells sl rest n).toArray.all (·.oneCell') = true := Array.all_eq_true_iff_forall_mem.2 fun v hv => by
  have hv : v ∈ hashCells sl rest n := by simpa using hv
  unfold hashCells at hv
  rcases List.mem_append.1 hv with hv | hv
  · obtain ⟨x, _, rfl⟩ := List.mem_map.1 hv; rfl
  · rcases List.mem_append.1 hv with hv | hv
    · obtain ⟨x, _, rfl⟩ := List.mem_map.1 hv; rfl
    · simp at hv; subst hv; rfl
abbrev z25 : Obj := .cells (kv .u8 (fill 32 [])).toArray 80
/-- The numbers of a state, as the cells of an array. -/
abbrev stv (s : St) : List Value := [.int .u32 s.a, .int .u32 s.b, .int .u32 s.c, .int .u32 s.d, .int .u32 s.e, .int .u32 s.f, .int .u32 s.g, .int .u32 s.h]
theorem calls_world {P : Program} {f : FuncId} {args : Array Value} {w : World} {R : Ending → World → Prop} (F : World → Prop) (hF : F w) (h : ∀ w2, F w2 → Calls P f args w2 R) : Calls P f args w R := h w hF
theorem pad_state {w : World} {b : Nat} {l : List Int} (h : HashIs w b (pad l)) : w.rangeAt b 0 (stv (sumSt l)) := by
  obtain ⟨rest, h1, h2, h3, h4⟩ := h
  intro j v hv
  rw [h4.cell, Nat.zero_add]
  have hj : j < 8 := (List.getElem?_eq_some_iff.1 hv).1
  have e : (pad l).length / 64 = blocks l.length := by rw [pad_len]; omega
  rw [e] at h4 ⊢
  have h5 : stv (sumSt l) = kv .u32 (absorb (pad l) (blocks l.length)).list := rfl
  rw [h5] at hv
  unfold hashCells
  rw [List.getElem?_toArray, List.getElem?_append_left (by rw [List.length_map, list_len]; exact hj)]
  exact hv
set_option maxRecDepth 100000 in
set_option maxHeartbeats 1000000 in
theorem hsum_any (b : Nat) (l : List Int) (w : World) (hk : KonIs w) (_h0 : 0 < b) (hH : HashIs w b l) (hlen : l.length ≤ 999999999999000) :
    Calls Tryd.prog 110 #[.pointer (some ⟨b, 0, none⟩)] w fun r w' => r = .returned (.agg (kv .u8 (digest l)).toArray) ∧ Below w.heap.size w w' := by
  have HK := Lib.hid hk
  have HL := Lib.hid hlen
  have HLt := Lib.hid hH.lt
  obtain ⟨rest, hr1, hr2, hr3, hB⟩ := hH
  have HR1 := Lib.hid hr1
  have HR2 := Lib.hid hr2
  have HR3 := Lib.hid hr3
  have HB := Lib.hid hB
  have HC := Kp.mk (info77.trans (congrArg some (hash_size (n := (l.length : Int)) (list_len (absorb l (l.length / 64))) hr1).symm))
  have HZ : Kp (Tryd.zeroCells174.size = (hashCells (absorb l (l.length / 64)).list rest l.length).toArray.size) := ⟨by rw [hash_size (list_len _) hr1]; kernel_rfl⟩
  clear hk hlen hr1 hr2 hr3 hB
  obtain ⟨C, hC⟩ : ∃ C, C = (hashCells (absorb l (l.length / 64)).list rest l.length).toArray := ⟨_, rfl⟩
  have HCd := Kp.mk hC
  have HA : Kp (C.all (·.oneCell') = true) := ⟨by rw [hC]; exact hash_all _ _ _⟩
  have HB' : Hid (Blk w b (.cells C 174)) := by rw [hC]; exact HB.out
  rw [← hC] at HC HZ
  clear hC HB
  go_enter Tryd.func110, Tryd.ntmps110
  go_wp2_with (first
    | (refine wpList_load_row rfl 174 (.tmp 12) rfl b rfl 174 C (0, 0) _ (Blk.old HB'.out _) Tryd.underlying174 rfl HC.out ?_)
    | (refine wpList_store_row rfl 174 (.tmp 3) (.tmp 13) rfl (w.heap.size + 1) C rfl rfl 174 Tryd.zeroCells174 (Blk.newAt _ (by simp)) HC.out HZ.out HA.out ?_))
  refine calls_world (fun W => HashIs W (w.heap.size + 1) l ∧ Row W w.heap.size 80 .u8 (fill 32 []) ∧ Below w.heap.size w W)
    ⟨⟨rest, HR1.out, HR2.out, HR3.out, by have h := Blk.setRow (Blk.newAt (w := w.alloc z25) (b := w.heap.size + 1) (.cells Tryd.zeroCells174 174) (by simp)) C; rw [HCd.out] at h ⊢; exact h⟩,
      Row.otherRow (Row.alloc (Blk.newAt (w := w) z25 rfl) _) (by omega) _, Below.row (more (more (Below.refl _ _) z25) _) (by omega) _⟩ ?_
  rintro w2 ⟨hh, hr, hb⟩
  have HRo := Kp.mk hr
  have HBe := Kp.mk hb
  refine (end_any (w.heap.size + 1) l w2 (HK.out.keep hb) (by omega) hh HL.out).mono ?_
  rintro r w5 ⟨rfl, h5⟩
  have HR5 : Kp (Row w5 w.heap.size 80 .u8 (fill 32 [])) := by
    obtain ⟨rest', _, _, _, q4⟩ := h5
    exact ⟨q4.keep hr (by omega)⟩
  have HB5 : Kp (Below w.heap.size w w5) := by
    obtain ⟨rest', _, _, _, q4⟩ := h5
    exact ⟨hb.trans (q4.below (by omega) hb.size)⟩
  have HS5 := Kp.mk (pad_state h5.is)
  have HI5 := Kp.mk h5.is
  have H68 : Kp ((Tryd.prog.info? 168).map (·.size) = some (stv (sumSt l)).length) := ⟨info68⟩
  clear hh hr hb h5 HRo HBe
  go_wp2_with (refine wpList_load_mid rfl 168 (.tmp 15) rfl (w.heap.size + 1) 0 rfl (stv (sumSt l)) _ (fun j v hv => (Blk.cell (Blk.old (HI5.out.choose_spec.2.2.2) _) _).trans ((Blk.cell (HI5.out.choose_spec.2.2.2) _).symm.trans (HS5.out j v hv))) Tryd.underlying168 rfl H68.out ?_)
  obtain ⟨A, hA⟩ : ∃ A, A = w.heap.size := ⟨_, rfl⟩
  obtain ⟨D, hD⟩ : ∃ D, D = w5.heap.size := ⟨_, rfl⟩
  have hAD : A < D := by have h1 := HI5.out.choose_spec.2.2.2.lt; omega
  rw [← hA, ← hD]
  have HAe := Kp.mk hA
  refine wp_world (fun W => Row W D 80 .u8 (fill 32 ((sumSt l).bytes.take (4 * 0))) ∧ Row W A 80 .u8 (fill 32 []) ∧ Below A w W) ⟨by rw [hD]; exact Blk.new w5 z25, by rw [hA]; exact HR5.out.alloc _, by rw [hA]; exact (HB5.out.alloc HB5.out.size _)⟩ ?_
  rintro w6 ⟨h1, h2, h3⟩
  have H1 := Kp.mk h1
  have H2 := Kp.mk h2
  have H3 := Kp.mk h3
  have HD32 : Kp ((sumSt l).bytes = digest l) := ⟨rfl⟩
  clear h1 h2 h3 hA hD HR5 HB5 HS5 HI5 H68
  generalize sumSt l = S at *
  go_loopw [17] (fun c wr => ∃ i : Nat, i ≤ 8 ∧ c = .int .i64 i ∧ Row wr D 80 .u8 (fill 32 (S.bytes.take (4 * i))) ∧ Row wr A 80 .u8 (fill 32 []) ∧ Below A w wr) (fun c _ => 8 - (intOf c).toNat)
  case atStart => exact ⟨0, by omega, rfl, H1.out, H2.out, H3.out⟩
  case round =>
    obtain ⟨i, hi, rfl, h1, h2, h3⟩ := hrel
    have G1 := Kp.mk h1
    have G2 := Kp.mk h2
    have G3 := Kp.mk h3
    clear h1 h2 h3 H1 H2 H3
    by_cases hlt : i < 8
    · have hidx := index68 S i hlt
      generalize hx : S.list.getD i 0 = x at *
      have HX := Kp.mk hx
      clear hx
      go_wp2_with fail
      clear hidx
      go_loopw [21] (fun c wq => ∃ j : Nat, j ≤ 4 ∧ c = .int .i64 j ∧ Row wq D 80 .u8 (fill 32 (S.bytes.take (4 * i + j))) ∧ Row wq A 80 .u8 (fill 32 []) ∧ Below A w wq) (fun c _ => 4 - (intOf c).toNat)
      case atStart => exact ⟨0, by omega, rfl, G1.out, G2.out, G3.out⟩
      case round =>
        obtain ⟨j, hj, rfl, h1, h2, h3⟩ := hrel
        have F1 := Kp.mk h1
        have F2 := Kp.mk h2
        have F3 := Kp.mk h3
        clear h1 h2 h3 G1 G2 G3
        by_cases hlj : j < 4
        · have hl : (S.bytes.take (4 * i + j)).length = 4 * i + j := by rw [List.length_take, bytes_len]; omega
          have cw := F1.out.cell (i := 4 * i + j) (by rw [fill_len (by omega)]; omega)
          have fw := F1.out.frozen (4 * i + j)
          have HL2 := Kp.mk hl
          clear hl
          go_wp2_with fail
          refine ⟨⟨j + 1, by omega, by go_num, ?_, F2.out.other (by show D ≠ A; omega) _, F3.out.setCell (by show A ≤ D; omega) _⟩, by simp [intOf]; omega⟩
          refine (F1.out.set (4 * i + j) _).as ?_
          rw [← Nat.add_assoc, bytes_step S (4 * i + j) (by omega), bytes_get S i j hlt hlj, HX.out, ← fill_set (by rw [HL2.out]; omega), HL2.out]
        · have HJ : Kp (j = 4) := ⟨by omega⟩
          have hge : 4 ≤ (j : Int) := by omega
          clear hlj hj
          go_wp2_with fail
          refine ⟨⟨i + 1, by omega, by go_num, ?_, F2.out, F3.out⟩, by simp [intOf]; omega⟩
          have h := F1.out
          rw [HJ.out] at h
          exact h
    · have HI : Kp (i = 8) := ⟨by omega⟩
      have hge : 8 ≤ (i : Int) := by omega
      have HR : Kp (Row wr D 80 .u8 (digest l)) := by
        have h := G1.out
        rw [HI.out, List.take_of_length_le (by rw [bytes_len]; omega), fill_full (bytes_len S), HD32.out] at h
        exact ⟨h⟩
      have HC25 := Kp.mk (cells25 (digest_len l))
      have HZ25 : Kp ((kv .u8 (fill 32 [])).toArray.size = (kv .u8 (digest l)).toArray.size) := ⟨by rw [kv_size, kv_size, digest_len]; rfl⟩
      have HF := Kp.mk (G2.out.setRow (digest l))
      have HBf := Kp.mk (Below.row G3.out (g := A) (Nat.le_refl _) (kv .u8 (digest l)).toArray)
      clear hlt hi G1
      go_wp2_with (first
        | (refine wpList_load_row rfl 80 (.tmp 4) rfl D rfl 80 (kv .u8 (digest l)).toArray (0, 0) _ HR.out Tryd.underlying80 rfl HC25.out ?_)
        | (refine wpList_store_row rfl 80 (.tmp 2) (.tmp 37) rfl A (kv .u8 (digest l)).toArray rfl rfl 80 _ G2.out HC25.out HZ25.out (kv_all _ _) ?_))
      refine bodyPost_ret (v := .agg (kv .u8 (digest l)).toArray) ?_ rfl ⟨rfl, by rw [← HAe.out]; exact HBf.out⟩
      exact results_cell_row rfl _ _ A 80 _ (0, 0) _ rfl HF.out Tryd.underlying80 rfl HC25.out
theorem HoldsB.own {w : World} {M : Nat} {v : Value} {l : List Int} (h : HoldsB w M v l) : HoldsB w w.heap.size v l := by
  obtain ⟨a, cap, h1, h2, h3, h4, h5, h6, h7⟩ := h
  exact ⟨a, cap, h1, h2, h3, h4, fun x hx h0 => ⟨(h5 x hx h0).1, (h5 x hx h0).2.2, (h5 x hx h0).2.2⟩, h6, h7⟩
/-- Bytes that were there ahead of block b. -/
theorem HoldsB.apart {w w' : World} {M b : Nat} {v : Value} {l : List Int} (h : HoldsB w M v l) (hb : Below w.heap.size w w') (hle : w.heap.size ≤ b) : HoldsX w' b v l := by
  refine ⟨(h.own.keep hb).mono hb.size, ?_⟩
  obtain ⟨a, cap, rfl, h2, h3, h4, h5, h6, h7⟩ := h
  intro x n c he h0
  simp only [Value.slice.injEq] at he
  have := (h5 x he.1 (by omega)).2.2
  show x.block ≠ b
  omega
set_option maxRecDepth 100000 in
set_option maxHeartbeats 400000 in
/-- sha.Sum. -/
theorem sum_any (M : Nat) (v : Value) (p : List Int) (w : World) (hk : KonIs w) (hp : HoldsB w M v p) (hlen : p.length ≤ 999999999999000) :
    Calls Tryd.prog 107 #[v] w fun r w' => r = .returned (.agg (kv .u8 (digest p)).toArray) ∧ Below w.heap.size w w' := by
  have HK := Kp.mk hk
  have HP := Kp.mk hp
  have HL := Kp.mk hlen
  have HC25 := Kp.mk (cells25 (digest_len p))
  have HZ25 : Kp ((kv .u8 (fill 32 [])).toArray.size = (kv .u8 (digest p)).toArray.size) := ⟨by rw [kv_size, kv_size, digest_len]; rfl⟩
  have hpos := hk.pos
  have HPo := Kp.mk hpos
  clear hk hp hlen hpos
  go_enter Tryd.func107, Tryd.ntmps107
  go_wp2_with fail
  refine calls_world (fun W => Row W w.heap.size 80 .u8 (fill 32 []) ∧ Below w.heap.size w W ∧ w.heap.size < W.heap.size) ⟨Blk.newAt (w := w) z25 rfl, more (Below.refl _ _) z25, by simp⟩ ?_
  rintro w1 ⟨hr, hb, hs⟩
  have HR := Kp.mk hr
  have HB := Kp.mk hb
  have HS := Kp.mk hs
  clear hr hb hs
  refine (new_any w1).mono ?_
  rintro r w2 ⟨rfl, hh, hb⟩
  have HH := Kp.mk hh
  have HB2 := Kp.mk hb
  have HX : Kp (HoldsX w2 w1.heap.size v p) := ⟨HP.out.apart (HB.out.trans (hb.mono HB.out.size)) HB.out.size⟩
  clear hh hb
  go_wp2_with fail
  refine (write_any w1.heap.size [] p v w2 ((HK.out.keep HB.out).keep HB2.out) (by have := HS.out; omega) HH.out HX.out (by have := HL.out; simp; omega)).mono ?_
  rintro r w3 ⟨rfl, h3⟩
  have H3 := Kp.mk h3
  have HT3 : Kp (Below w1.heap.size w1 w3) := by
    obtain ⟨_, _, _, _, q⟩ := h3
    exact ⟨HB2.out.trans (q.below (Nat.le_refl _) HB2.out.size)⟩
  clear h3
  go_wp2_with fail
  refine (hsum_any w1.heap.size p w3 ((HK.out.keep HB.out).keep HT3.out) (by have := HS.out; omega) H3.out.is HL.out).mono ?_
  rintro r w4 ⟨rfl, h4⟩
  have HB4 : Kp (Below w1.heap.size w1 w4) := ⟨HT3.out.trans (h4.mono HT3.out.size)⟩
  have HR4 := Kp.mk (HR.out.keep HB4.out)
  have HF := Kp.mk (HR4.out.setRow (digest p))
  have HBf := Kp.mk (Below.row (HB.out.trans (HB4.out.mono HB.out.size)) (g := w.heap.size) (Nat.le_refl _) (kv .u8 (digest p)).toArray)
  clear h4
  go_wp2_with (refine wpList_store_row rfl 80 (.tmp 2) (.tmp 9) rfl w.heap.size (kv .u8 (digest p)).toArray rfl rfl 80 _ HR4.out HC25.out HZ25.out (kv_all _ _) ?_)
  refine bodyPost_ret (v := .agg (kv .u8 (digest p)).toArray) ?_ rfl ⟨rfl, HBf.out⟩
  exact results_cell_row rfl _ _ w.heap.size 80 _ (0, 0) _ rfl HF.out Tryd.underlying80 rfl HC25.out
end Go.Proofs.YtgabjmmmiogfjaaDoor



namespace Go.Proofs.YtgabjmmmiogfjaaDoor
open Go.RowKit

set_option maxRecDepth 100000 in
theorem slice25_all (b : Nat) (w : World) : (Instr.sliceAt 80 (.pointer (some ⟨b, 0, none⟩)) none none none).run Tryd.prog w = .ok (.slice (some ⟨b, 0, none⟩) 32 32) w := by
  have hl : Tryd.prog.arrayLen 80 = 32 := by kernel_rfl
  have he : Tryd.prog.elem 80 = 5 := by kernel_rfl
  rw [run_sliceAt_array_all (ht := Tryd.underlying80), hl, he, size5]
  rfl
theorem digest_bytes (l : List Int) : Bytes (digest l) := bytes_bytes _
theorem HoldsB.ofBytes {w : World} {b : Nat} {l : List Int} {t : TypeId} (h : Row w b t .u8 l) (hb : Bytes l) (hm : l.length ≤ maxLen) : HoldsB w w.heap.size (.slice (some ⟨b, 0, none⟩) l.length l.length) l :=
  HoldsB.ofRow2 (off := 0) h rfl (Nat.le_refl _) hm (fun i hi => by simp [List.getElem?_eq_getElem hi, List.getD_eq_getElem?_getD]) hb
end Go.Proofs.YtgabjmmmiogfjaaDoor

namespace Go.Proofs.YtgabjmmmiogfjaaDoor
open Go.RowKit

/-- A key's block. -/
def keyb (k : List Int) : List Int := fill 64 (if 64 < k.length then digest k else k)
theorem keyb_len (k : List Int) : (keyb k).length = 64 := by
  unfold keyb
  split
  · rw [fill_len (by rw [digest_len]; omega)]
  · rw [fill_len (by omega)]
theorem fill_bytes {n : Nat} {l : List Int} (h : Bytes l) : Bytes (fill n l) := h.append (zeros_bytes _)
theorem keyb_bytes {k : List Int} (h : Bytes k) : Bytes (keyb k) := by
  unfold keyb
  split
  · exact fill_bytes (digest_bytes _)
  · exact fill_bytes h
/-- Each byte laid over with x. -/
def over (l : List Int) (x : Int) : List Int := l.map fun b => bits .xor .u8 b x
theorem over_len (l : List Int) (x : Int) : (over l x).length = l.length := by simp [over]
theorem bits_u8r (op : BinOp) (x y : Int) : 0 ≤ bits op .u8 x y ∧ bits op .u8 x y ≤ 255 := by
  unfold bits
  simp only [IntKind.wrap_u8']
  omega
theorem over_bytes (l : List Int) (x : Int) : Bytes (over l x) := by
  intro y hy
  unfold over at hy
  obtain ⟨b, _, rfl⟩ := List.mem_map.1 hy
  exact bits_u8r _ _ _
/-- A message's tag by a key. -/
def macL (k p : List Int) : List Int := digest (over (keyb k) 92 ++ digest (over (keyb k) 54 ++ p))
theorem info75 : (Tryd.prog.info? 159).map (·.size) = some 64 := by kernel_rfl
theorem cells75 {l : List Int} (h : l.length = 64) : (Tryd.prog.info? 159).map (·.size) = some (kv .u8 l).toArray.size := by rw [info75, kv_size, h]
abbrev z75 : Obj := .cells (kv .u8 (fill 64 [])).toArray 159
theorem size75 {l : List Int} (h : l.length = 64) : (kv .u8 (fill 64 [])).toArray.size = (kv .u8 l).toArray.size := by rw [kv_size, kv_size, h]; rfl
set_option maxRecDepth 100000 in
theorem slice75_whole (b : Nat) (w : World) : (Instr.sliceAt 159 (.pointer (some ⟨b, 0, none⟩)) none none none).run Tryd.prog w = .ok (.slice (some ⟨b, 0, none⟩) 64 64) w := by
  have hl : Tryd.prog.arrayLen 159 = 64 := by kernel_rfl
  have he : Tryd.prog.elem 159 = 5 := by kernel_rfl
  rw [run_sliceAt_array_all (ht := Tryd.underlying159), hl, he, size5]
  rfl
/-- l with its first k numbers laid over. -/
def ovr (l : List Int) (x : Int) (k : Nat) : List Int := (over l x).take k ++ l.drop k
theorem ovr_len (l : List Int) (x : Int) (k : Nat) (h : k ≤ l.length) : (ovr l x k).length = l.length := by simp [ovr, over_len]; omega
theorem ovr_get (l : List Int) (x : Int) (k : Nat) (h : k < l.length) : (ovr l x k).getD k 0 = l.getD k 0 := by
  unfold ovr
  rw [List.getD_eq_getElem?_getD, List.getElem?_append_right (by rw [List.length_take, over_len]; omega), List.length_take, over_len, Nat.min_eq_left (Nat.le_of_lt h), Nat.sub_self, List.getElem?_drop, Nat.add_zero, ← List.getD_eq_getElem?_getD]
theorem ovr_set (l : List Int) (x : Int) (k : Nat) (h : k < l.length) : (ovr l x k).set k (bits .xor .u8 (l.getD k 0) x) = ovr l x (k + 1) := by
  unfold ovr
  have e1 : ((over l x).take k).length = k := by rw [List.length_take, over_len]; omega
  rw [List.set_append_right _ _ (by omega), e1, Nat.sub_self]
  have e2 : l.drop k = l.getD k 0 :: l.drop (k + 1) := by
    rw [List.drop_eq_getElem_cons h, List.getD_eq_getElem?_getD, List.getElem?_eq_getElem h]
    rfl
  have e3 : (over l x).take (k + 1) = (over l x).take k ++ [bits .xor .u8 (l.getD k 0) x] := by
    rw [List.take_succ_eq_append_getElem (by rw [over_len]; exact h), List.getD_eq_getElem?_getD, List.getElem?_eq_getElem h]
    simp [over]
  rw [e2, List.set_cons_zero, e3, List.append_assoc]
  rfl
theorem ovr_zero (l : List Int) (x : Int) : ovr l x 0 = l := by simp [ovr]
theorem ovr_full (l : List Int) (x : Int) : ovr l x l.length = over l x := by
  unfold ovr
  rw [List.take_of_length_le (by rw [over_len]; exact Nat.le_refl _), List.drop_of_length_le (Nat.le_refl _), List.append_nil]
set_option maxRecDepth 100000 in
set_option maxHeartbeats 1000000 in
theorem overlaid_any (l : List Int) (x : Int) (w : World) (hl : l.length = 64) :
    Calls Tryd.prog 103 #[.agg (kv .u8 l).toArray, .int .u8 x] w fun r w' => r = .returned (.slice (some ⟨w.heap.size, 0, none⟩) 64 64) ∧ HoldsB w' w'.heap.size (.slice (some ⟨w.heap.size, 0, none⟩) 64 64) (over l x) ∧ Below w.heap.size w w' := by
  have HL := Kp.mk hl
  have hs := slice75_whole w.heap.size
  clear hl
  go_enter Tryd.func103, Tryd.ntmps103
  go_wp2_with fail
  obtain ⟨A, hA⟩ : ∃ A, A = w.heap.size := ⟨_, rfl⟩
  rw [← hA] at hs ⊢
  have HA := Kp.mk hA
  go_loopw [6] (fun c wr => ∃ k : Nat, k ≤ 64 ∧ c = .int .i64 k ∧ Row wr A 159 .u8 (ovr l x k) ∧ Below A w wr) (fun c _ => 64 - (intOf c).toNat)
  case atStart => exact ⟨0, by omega, rfl, by rw [ovr_zero]; exact Blk.newAt _ hA, by rw [hA]; exact more (Below.refl _ _) _⟩
  case round =>
    obtain ⟨k, hk, rfl, h1, h2⟩ := hrel
    have G1 := Kp.mk h1
    have G2 := Kp.mk h2
    clear h1 h2 hA
    by_cases hlt : k < 64
    · have cw : wr.cell? ⟨A, k, none⟩ = some (.int .u8 (l.getD k 0)) := by rw [G1.out.cell (by rw [ovr_len _ _ _ (by rw [HL.out]; exact hk), HL.out]; exact hlt), ovr_get _ _ _ (by rw [HL.out]; exact hlt)]
      have fw := G1.out.frozen k
      have HS := Kp.mk (ovr_set l x k (by rw [HL.out]; exact hlt))
      generalize l.getD k 0 = y at *
      go_wp2_with fail
      refine ⟨⟨k + 1, by omega, by go_num, (G1.out.set k _).as HS.out, G2.out.setCell (Nat.le_refl _) _⟩, by simp [intOf]; omega⟩
    · have HK : Kp (k = 64) := ⟨by omega⟩
      have hge : 64 ≤ (k : Int) := by omega
      have HF : Kp (Row wr A 159 .u8 (over l x)) := by
        have h := G1.out
        rw [HK.out, ← HL.out, ovr_full] at h
        exact ⟨h⟩
      clear hlt hk G1
      go_wp2_with fail
      go_ret
      rw [← HA.out]
      refine ⟨rfl, ?_, G2.out⟩
      have h := HoldsB.ofBytes HF.out (over_bytes l x) (by rw [over_len, HL.out]; unfold maxLen; omega)
      rw [over_len, HL.out] at h
      exact h
end Go.Proofs.YtgabjmmmiogfjaaDoor

namespace Go.Proofs.YtgabjmmmiogfjaaDoor
open Go.RowKit

set_option maxRecDepth 100000 in
set_option maxHeartbeats 1000000 in
theorem msum_any (M N : Nat) (v u : Value) (p q : List Int) (w : World) (hk : KonIs w) (hp : HoldsB w M v p) (hq : HoldsB w N u q) (hlen : p.length + q.length ≤ 999999999999000) :
    Calls Tryd.prog 102 #[v, u] w fun r w' => r = .returned (.agg (kv .u8 (digest (p ++ q))).toArray) ∧ Below w.heap.size w w' := by
  have HK := Kp.mk hk
  have HP := Kp.mk hp
  have HQ := Kp.mk hq
  have HL := Kp.mk hlen
  have HC25 := Kp.mk (cells25 (digest_len (p ++ q)))
  have HZ25 : Kp ((kv .u8 (fill 32 [])).toArray.size = (kv .u8 (digest (p ++ q))).toArray.size) := ⟨by rw [kv_size, kv_size, digest_len]; rfl⟩
  have hpos := hk.pos
  have HPo := Kp.mk hpos
  clear hk hp hq hlen hpos
  go_enter Tryd.func102, Tryd.ntmps102
  go_wp2_with fail
  refine calls_world (fun W => Row W w.heap.size 80 .u8 (fill 32 []) ∧ Below w.heap.size w W ∧ w.heap.size < W.heap.size) ⟨Blk.newAt (w := w) z25 rfl, more (Below.refl _ _) z25, by simp⟩ ?_
  rintro w1 ⟨hr, hb, hs⟩
  have HR := Kp.mk hr
  have HB := Kp.mk hb
  have HS := Kp.mk hs
  clear hr hb hs
  refine (new_any w1).mono ?_
  rintro r w2 ⟨rfl, hh, hb⟩
  have HH := Kp.mk hh
  have HB2 := Kp.mk hb
  have HX : Kp (HoldsX w2 w1.heap.size v p) := ⟨HP.out.apart (HB.out.trans (hb.mono HB.out.size)) HB.out.size⟩
  have HY : Kp (HoldsX w2 w1.heap.size u q) := ⟨HQ.out.apart (HB.out.trans (hb.mono HB.out.size)) HB.out.size⟩
  clear hh hb
  go_wp2_with fail
  refine (write_any w1.heap.size [] p v w2 ((HK.out.keep HB.out).keep HB2.out) (by have := HS.out; omega) HH.out HX.out (by have := HL.out; simp; omega)).mono ?_
  rintro r w3 ⟨rfl, h3⟩
  have H3 := Kp.mk h3
  have HT3 : Kp (Below w1.heap.size w1 w3 ∧ HoldsX w3 w1.heap.size u q) := by
    obtain ⟨_, _, _, _, t⟩ := h3
    exact ⟨HB2.out.trans (t.below (Nat.le_refl _) HB2.out.size), HY.out.turn t⟩
  clear h3
  go_wp2_with fail
  refine (write_any w1.heap.size p q u w3 ((HK.out.keep HB.out).keep HT3.out.1) (by have := HS.out; omega) H3.out.is HT3.out.2 (by have := HL.out; omega)).mono ?_
  rintro r w5 ⟨rfl, h5⟩
  have H5 := Kp.mk h5
  have HT5 : Kp (Below w1.heap.size w1 w5) := by
    obtain ⟨_, _, _, _, t⟩ := h5
    exact ⟨HT3.out.1.trans (t.below (Nat.le_refl _) HT3.out.1.size)⟩
  clear h5
  go_wp2_with fail
  refine (hsum_any w1.heap.size (p ++ q) w5 ((HK.out.keep HB.out).keep HT5.out) (by have := HS.out; omega) H5.out.is (by rw [List.length_append]; exact HL.out)).mono ?_
  rintro r w4 ⟨rfl, h4⟩
  have HB4 : Kp (Below w1.heap.size w1 w4) := ⟨HT5.out.trans (h4.mono HT5.out.size)⟩
  have HR4 := Kp.mk (HR.out.keep HB4.out)
  have HF := Kp.mk (HR4.out.setRow (digest (p ++ q)))
  have HBf := Kp.mk (Below.row (HB.out.trans (HB4.out.mono HB.out.size)) (g := w.heap.size) (Nat.le_refl _) (kv .u8 (digest (p ++ q))).toArray)
  clear h4
  go_wp2_with (refine wpList_store_row rfl 80 (.tmp 4) (.tmp 14) rfl w.heap.size (kv .u8 (digest (p ++ q))).toArray rfl rfl 80 _ HR4.out HC25.out HZ25.out (kv_all _ _) ?_)
  refine bodyPost_ret (v := .agg (kv .u8 (digest (p ++ q))).toArray) ?_ rfl ⟨rfl, HBf.out⟩
  exact results_cell_row rfl _ _ w.heap.size 80 _ (0, 0) _ rfl HF.out Tryd.underlying80 rfl HC25.out
end Go.Proofs.YtgabjmmmiogfjaaDoor

namespace Go.Proofs.YtgabjmmmiogfjaaDoor
open Go.RowKit

theorem slice75_block (b : Nat) (w : World) : (Instr.sliceAt 159 (.pointer (some ⟨b, 0, none⟩)) none none none).run Tryd.prog w = .ok (.slice (some ⟨b, 0, none⟩) 64 64) w := slice75_whole b w
theorem keyb_small {k : List Int} (h : k.length ≤ 64) : keyb k = fill 64 k := by unfold keyb; rw [if_neg (by omega)]
theorem keyb_big {k : List Int} (h : 64 < k.length) : keyb k = fill 64 (digest k) := by unfold keyb; rw [if_pos h]
theorem splice_key (p : List Int) : splice (kv .u8 (fill 64 [])) 0 (kv .u8 p) = kv .u8 (fill 64 p) := by
  unfold splice fill kv
  simp only [List.nil_append, List.take_zero, List.map_append, List.map_replicate, List.length_map, List.length_nil, Nat.zero_add, List.drop_replicate, Nat.sub_zero]
theorem HoldsB.cells {w : World} {M : Nat} {a : Option Addr} {n cap : Nat} {l : List Int} (h : HoldsB w M (.slice a n cap) l) (h0 : 0 < (kv .u8 l).length) : ∃ ad, a = some ad ∧ ∀ j u, (kv .u8 l)[j]? = some u → w.cell? (ad.add j) = some u := h.source h0
set_option maxRecDepth 100000 in
set_option maxHeartbeats 1000000 in
theorem keyBlock_any (M : Nat) (v : Value) (k : List Int) (w : World) (hk : KonIs w) (hp : HoldsB w M v k) (hlen : k.length ≤ 999999999999000) :
    Calls Tryd.prog 101 #[v] w fun r w' => r = .returned (.agg (kv .u8 (keyb k)).toArray) ∧ Below w.heap.size w w' := by
  obtain ⟨a0, n, cap, rfl, hn⟩ := hp.slice
  have HK := Kp.mk hk
  have HP := Kp.mk hp
  have HN := Kp.mk hn
  have HN2 := Kp.mk hlen
  have hnm : n ≤ 999999999999000 := by omega
  have HC75 := Kp.mk (cells75 (keyb_len k))
  have HZ75 : Kp ((kv .u8 (fill 64 [])).toArray.size = (kv .u8 (keyb k)).toArray.size) := ⟨size75 (keyb_len k)⟩
  obtain ⟨A, hA⟩ : ∃ A, A = w.heap.size := ⟨_, rfl⟩
  have HA := Kp.mk hA
  clear hk hp hlen
  by_cases hbig : 64 < n
  · have HBIG : Kp (keyb k = fill 64 (digest k)) := ⟨keyb_big (by omega)⟩
    have HDL := Kp.mk (digest_len k)
    have HDB := Kp.mk (digest_bytes k)
    have HCD := Kp.mk (cells25 (digest_len k))
    have HZD : Kp ((kv .u8 (fill 32 [])).toArray.size = (kv .u8 (digest k)).toArray.size) := ⟨by rw [kv_size, kv_size, digest_len]; rfl⟩
    have hs := slice75_whole
    have hs2 := slice25_all
    clear hn
    go_enter Tryd.func101, Tryd.ntmps101
    go_wp2_with fail
    rw [← hA]
    refine calls_world (fun W => Row W A 159 .u8 (fill 64 []) ∧ Row W (A + 1) 159 .u8 (fill 64 []) ∧ Below w.heap.size w W ∧ A + 1 < W.heap.size) ⟨Row.alloc (Blk.newAt (w := w) z75 hA) _, Blk.newAt (w := w.alloc z75) z75 (by rw [hA]; simp), more (more (Below.refl _ _) z75) z75, by rw [hA]; simp⟩ ?_
    rintro w1 ⟨hr, hr1, hb, hsz⟩
    have HR := Kp.mk hr
    have HR1 := Kp.mk hr1
    have HB := Kp.mk hb
    have HS := Kp.mk hsz
    clear hr hr1 hb hsz hA
    refine (sum_any M _ k w1 (HK.out.keep HB.out) (HP.out.keep HB.out) HN2.out).mono ?_
    rintro r w2 ⟨rfl, h2⟩
    have H2 := Kp.mk h2
    clear h2
    generalize digest k = d at *
    have HSZ2 : Kp (A + 1 < w2.heap.size) := ⟨by have := H2.out.size; have := HS.out; omega⟩
    obtain ⟨W, hW⟩ : ∃ W, W = (w2.alloc z25).setRow w2.heap.size (kv .u8 d).toArray := ⟨_, rfl⟩
    have HB1 : Kp (Row w2 (A + 1) 159 .u8 (fill 64 [])) := ⟨HR1.out.keep H2.out⟩
    have HB0 : Kp (Row w2 A 159 .u8 (fill 64 [])) := ⟨HR.out.keep H2.out⟩
    have HRD : Kp (Row W w2.heap.size 80 .u8 d) := ⟨by rw [hW]; exact Row.setRow (k := .u8) (l := fill 32 []) (Blk.new w2 z25) _⟩
    have HT1 : Kp (Row W (A + 1) 159 .u8 (fill 64 [])) := ⟨by rw [hW]; exact Row.otherRow (Row.alloc HB1.out z25) (by have := HSZ2.out; omega) _⟩
    have HT0 : Kp (Row W A 159 .u8 (fill 64 [])) := ⟨by rw [hW]; exact Row.otherRow (Row.alloc HB0.out z25) (by have := HSZ2.out; omega) _⟩
    have HBW : Kp (Below w.heap.size w W) := ⟨by rw [hW]; exact Below.row (more (HB.out.trans (H2.out.mono HB.out.size)) z25) (by have := HSZ2.out; have := HA.out; omega) _⟩
    have HH : Kp (HoldsB W W.heap.size (.slice (some ⟨w2.heap.size, 0, none⟩) 32 32) d) := ⟨by
      have h := HoldsB.ofBytes HRD.out HDB.out (by rw [HDL.out]; decide)
      rw [HDL.out] at h
      exact h⟩
    go_wp2_with (first
      | (refine wpList_store_row rfl 80 (.tmp 4) (.tmp 9) rfl w2.heap.size (kv .u8 d).toArray rfl rfl 80 _ (Blk.new w2 z25) HCD.out HZD.out (kv_all _ _) ?_; refine wpl_world (· = W) hW.symm ?_; clear hW; intro W0 e; rw [e]; clear e)
      | (refine wpList_copy_turn rfl (.tmp 11) (.tmp 12) 24 24 rfl 5 Tryd.underlying24 info5' _ _ _ _ _ _ rfl rfl (A + 1) 0 (kv .u8 (fill 64 [])) 159 W (Turn.same HT1.out) (kv .u8 d) (by rw [List.length_map, HDL.out]; rfl) (fun h1 => ⟨rfl, HH.out.cells h1⟩) (by rw [List.length_map, List.length_map, HDL.out, fill_len (by simp)]; omega) (kv_one _) ?_))
    intro w3 HT3
    have HR3 : Kp (Row w3 (A + 1) 159 .u8 (keyb k)) := ⟨by rw [HBIG.out]; have h := HT3.out.blk; rw [splice_key] at h; exact h⟩
    have HR0 : Kp (Row w3 A 159 .u8 (fill 64 [])) := ⟨HT3.out.keep HT0.out (by omega)⟩
    have HB3 : Kp (Below w.heap.size w w3) := ⟨HBW.out.trans (HT3.out.below (by have := HA.out; omega) HBW.out.size)⟩
    have HF := Kp.mk (HR0.out.setRow (keyb k))
    have HBf := Kp.mk (Below.row HB3.out (g := A) (by rw [HA.out]; exact Nat.le_refl _) (kv .u8 (keyb k)).toArray)
    clear HT3 hs hs2
    go_wp2_with (first
      | (refine wpList_load_row rfl 159 (.tmp 3) rfl (A + 1) rfl 159 (kv .u8 (keyb k)).toArray (0, 0) _ HR3.out Tryd.underlying159 rfl HC75.out ?_)
      | (refine wpList_store_row rfl 159 (.tmp 2) (.tmp 14) rfl A (kv .u8 (keyb k)).toArray rfl rfl 159 _ HR0.out HC75.out HZ75.out (kv_all _ _) ?_))
    refine bodyPost_ret (v := .agg (kv .u8 (keyb k)).toArray) ?_ rfl ⟨rfl, HBf.out⟩
    exact results_cell_row rfl _ _ A 159 _ (0, 0) _ rfl HF.out Tryd.underlying159 rfl HC75.out
  · have HSM : Kp (keyb k = fill 64 k) := ⟨keyb_small (by omega)⟩
    have hle : n ≤ 64 := by omega
    have hs := slice75_whole
    clear hn hbig
    subst hA
    obtain ⟨W, hW⟩ : ∃ W, W = (w.alloc z75).alloc z75 := ⟨_, rfl⟩
    have HT0 : Kp (Row W w.heap.size 159 .u8 (fill 64 [])) := ⟨by rw [hW]; exact Row.alloc (Blk.newAt (w := w) z75 rfl) _⟩
    have HT1 : Kp (Row W (w.heap.size + 1) 159 .u8 (fill 64 [])) := ⟨by rw [hW]; exact Blk.newAt (w := w.alloc z75) z75 (by simp)⟩
    have HBW : Kp (Below w.heap.size w W) := ⟨by rw [hW]; exact more (more (Below.refl _ _) z75) z75⟩
    have HH := Kp.mk (HP.out.keep HBW.out)
    have HW := Kp.mk hW
    clear hW
    go_enter Tryd.func101, Tryd.ntmps101
    go_wp2_with (refine wpl_world (· = W) HW.out.symm ?_; intro W0 e; rw [e]; clear e; refine wpList_copy_turn rfl (.tmp 11) (.tmp 12) 24 24 rfl 5 Tryd.underlying24 info5' _ _ _ _ _ _ rfl rfl (w.heap.size + 1) 0 (kv .u8 (fill 64 [])) 159 W (Turn.same HT1.out) (kv .u8 k) (by rw [List.length_map, ← HN.out]; exact (Nat.min_eq_left hle).symm) (fun h1 => ⟨rfl, HH.out.cells h1⟩) (by rw [List.length_map, List.length_map, ← HN.out, fill_len (by simp)]; omega) (kv_one _) ?_)
    intro w3 HT3
    have HR3 : Kp (Row w3 (w.heap.size + 1) 159 .u8 (keyb k)) := ⟨by rw [HSM.out]; have h := HT3.out.blk; rw [splice_key] at h; exact h⟩
    have HR0 : Kp (Row w3 w.heap.size 159 .u8 (fill 64 [])) := ⟨HT3.out.keep HT0.out (by omega)⟩
    have HB3 : Kp (Below w.heap.size w w3) := ⟨HBW.out.trans (HT3.out.below (Nat.le_succ _) HBW.out.size)⟩
    have HF := Kp.mk (HR0.out.setRow (keyb k))
    have HBf := Kp.mk (Below.row HB3.out (g := w.heap.size) (Nat.le_refl _) (kv .u8 (keyb k)).toArray)
    clear HT3 hs
    go_wp2_with (first
      | (refine wpList_load_row rfl 159 (.tmp 3) rfl (w.heap.size + 1) rfl 159 (kv .u8 (keyb k)).toArray (0, 0) _ HR3.out Tryd.underlying159 rfl HC75.out ?_)
      | (refine wpList_store_row rfl 159 (.tmp 2) (.tmp 14) rfl w.heap.size (kv .u8 (keyb k)).toArray rfl rfl 159 _ HR0.out HC75.out HZ75.out (kv_all _ _) ?_))
    refine bodyPost_ret (v := .agg (kv .u8 (keyb k)).toArray) ?_ rfl ⟨rfl, HBf.out⟩
    exact results_cell_row rfl _ _ w.heap.size 159 _ (0, 0) _ rfl HF.out Tryd.underlying159 rfl HC75.out
end Go.Proofs.YtgabjmmmiogfjaaDoor

namespace Go.Proofs.YtgabjmmmiogfjaaDoor
open Go.RowKit

theorem below_drew2 {B : Nat} {w w' : World} (h : Below B w.drew w') : Below B w w' := ⟨h.os, h.tape, h.output, h.size, h.block⟩
set_option maxRecDepth 100000 in
set_option maxHeartbeats 2000000 in
theorem mac_any (M N : Nat) (v u : Value) (k p : List Int) (w : World) (hk : KonIs w) (hp : HoldsB w M v k) (hq : HoldsB w N u p) (hlen : k.length ≤ 999999999999000) (hlen2 : p.length ≤ 999999999990000) :
    Calls Tryd.prog 75 #[v, u] w fun r w' => r = .returned (.agg (kv .u8 (macL k p)).toArray) ∧ Below w.heap.size w w' := by
  have HK := Kp.mk hk
  have HP := Kp.mk hp
  have HQ := Kp.mk hq
  have HL := Kp.mk hlen
  have HL2 := Kp.mk hlen2
  obtain ⟨A, hA⟩ : ∃ A, A = w.heap.size := ⟨_, rfl⟩
  have HA := Kp.mk hA
  clear hk hp hq hlen hlen2
  go_enter Tryd.func75, Tryd.ntmps75
  go_wp2_with fail
  rw [← hA]
  refine calls_world (fun W => Row W A 80 .u8 (fill 32 []) ∧ Below w.heap.size w W ∧ A < W.heap.size) ⟨Blk.newAt (w := w) z25 hA, more (Below.refl _ _) z25, by rw [hA]; simp⟩ ?_
  rintro w1 ⟨hr, hb, hsz⟩
  have HR := Kp.mk hr
  have HB := Kp.mk hb
  have HS := Kp.mk hsz
  clear hr hb hsz hA
  refine (keyBlock_any M v k w1 (HK.out.keep HB.out) (HP.out.keep HB.out) HL.out).mono ?_
  rintro r w2 ⟨rfl, h2⟩
  have HE : Kp (macL k p = digest (over (keyb k) 92 ++ digest (over (keyb k) 54 ++ p))) := ⟨rfl⟩
  have HBL := Kp.mk (keyb_len k)
  have H2 := Kp.mk h2
  clear h2
  obtain ⟨R, hR⟩ : ∃ R, R = macL k p := ⟨_, rfl⟩
  rw [← hR] at HE
  have HRR := Kp.mk hR
  clear hR
  generalize keyb k = B at *
  have HSB : Kp (A < w2.heap.size) := ⟨by have := H2.out.size; have := HS.out; omega⟩
  obtain ⟨W, hW⟩ : ∃ W, W = (w2.alloc z75).setRow w2.heap.size (kv .u8 B).toArray := ⟨_, rfl⟩
  have HRB : Kp (Row W w2.heap.size 159 .u8 B) := ⟨by rw [hW]; exact Row.setRow (k := .u8) (l := fill 64 []) (Blk.new w2 z75) _⟩
  have HRA : Kp (Row W A 80 .u8 (fill 32 [])) := ⟨by rw [hW]; exact Row.otherRow (Row.alloc (HR.out.keep H2.out) z75) (by have := HSB.out; omega) _⟩
  have HBW : Kp (Below w.heap.size w W) := ⟨by rw [hW]; exact Below.row (more (HB.out.trans (H2.out.mono HB.out.size)) z75) (by have := HSB.out; have := HA.out; omega) _⟩
  have HC75 := Kp.mk (cells75 HBL.out)
  have HZ75 : Kp ((kv .u8 (fill 64 [])).toArray.size = (kv .u8 B).toArray.size) := ⟨size75 HBL.out⟩
  have HDW : Kp (w2.heap.size < W.heap.size) := ⟨HRB.out.lt⟩
  go_wp2_with (first
    | (refine wpList_store_row rfl 159 (.tmp 5) (.tmp 8) rfl w2.heap.size (kv .u8 B).toArray rfl rfl 159 _ (Blk.new w2 z75) HC75.out HZ75.out (kv_all _ _) ?_; refine wpl_world (· = W) hW.symm ?_; clear hW; intro W0 e; rw [e]; clear e)
    | (refine wpList_load_row rfl 159 (.tmp 5) rfl w2.heap.size rfl 159 (kv .u8 B).toArray (0, 0) _ HRB.out Tryd.underlying159 rfl HC75.out ?_))
  refine (overlaid_any B 54 W HBL.out).mono ?_
  rintro r w3 ⟨rfl, h3, h3b⟩
  have HO1 := Kp.mk h3
  have HB3 : Kp (Below w.heap.size w w3) := ⟨HBW.out.trans (h3b.mono HBW.out.size)⟩
  have HOL : Kp ((over B 54).length = 64) := ⟨by rw [over_len, HBL.out]⟩
  have HRB3 := Kp.mk (HRB.out.keep h3b)
  have HRA3 := Kp.mk (HRA.out.keep h3b)
  have HS3 : Kp (W.heap.size < w3.heap.size) := ⟨(by
    obtain ⟨_, _, e, _, _, _, h5, _⟩ := h3
    simp only [Value.slice.injEq] at e
    have := (h5 _ e.1.symm (by omega)).2.2
    exact this)⟩
  clear h3 h3b
  go_wp2_with fail
  refine (msum_any _ N _ u (over B 54) p w3 (HK.out.keep HB3.out) HO1.out (HQ.out.keep HB3.out) (by rw [HOL.out]; have := HL2.out; omega)).mono ?_
  rintro r w4 ⟨rfl, h4⟩
  have HI := Kp.mk (digest_len (over B 54 ++ p))
  have HIB := Kp.mk (digest_bytes (over B 54 ++ p))
  have HB4 : Kp (Below w.heap.size w w4) := ⟨HB3.out.trans (h4.mono HB3.out.size)⟩
  have HRB4 := Kp.mk (HRB3.out.keep h4)
  have HRA4 := Kp.mk (HRA3.out.keep h4)
  generalize digest (over B 54 ++ p) = I at *
  have HCI := Kp.mk (cells25 HI.out)
  have HZI : Kp ((kv .u8 (fill 32 [])).toArray.size = (kv .u8 I).toArray.size) := ⟨by rw [kv_size, kv_size, HI.out]; rfl⟩
  obtain ⟨V, hV⟩ : ∃ V, V = (w4.alloc z25).setRow w4.heap.size (kv .u8 I).toArray := ⟨_, rfl⟩
  have HVI : Kp (Row V w4.heap.size 80 .u8 I) := ⟨by rw [hV]; exact Row.setRow (k := .u8) (l := fill 32 []) (Blk.new w4 z25) _⟩
  have HVB : Kp (Row V w2.heap.size 159 .u8 B) := ⟨by rw [hV]; exact Row.otherRow (Row.alloc HRB4.out z25) (by have := HRB4.out.lt; omega) _⟩
  have HVA : Kp (Row V A 80 .u8 (fill 32 [])) := ⟨by rw [hV]; exact Row.otherRow (Row.alloc HRA4.out z25) (by have := HRA4.out.lt; omega) _⟩
  have HBV : Kp (Below w.heap.size w V) := ⟨by rw [hV]; exact Below.row (more HB4.out z25) HB4.out.size _⟩
  have HH : Kp (HoldsB V V.heap.size (.slice (some ⟨w4.heap.size, 0, none⟩) 32 32) I) := ⟨by
    have h := HoldsB.ofBytes HVI.out HIB.out (by rw [HI.out]; decide)
    rw [HI.out] at h
    exact h⟩
  have HRL := Kp.mk (digest_len (over B 92 ++ I))
  clear h4
  go_wp2_with (refine wpList_store_row rfl 80 (.tmp 6) (.tmp 12) rfl w4.heap.size (kv .u8 I).toArray rfl rfl 80 _ (Blk.new w4 z25) HCI.out HZI.out (kv_all _ _) ?_; refine wpl_world (· = V) hV.symm ?_; intro W0 e; rw [e]; clear e)
  refine wp_region_any (by kernel_rfl) ?_
  change wpAny _ _ _ _ _ _ _ (World.drew _)
  refine wpAny_take (i := 2) (v := .slice (some ⟨w4.heap.size, 0, none⟩) 32 32) rfl (by kernel_rfl) (by kernel_rfl) (by kernel_rfl) (fun _ _ _ h => h) (Or.inl ⟨by rfl, ?_⟩) ?_
  · have hs := slice25_all
    intro w
    go_simp
  refine wpAny_ready (rs := [0]) (by kernel_rfl) (by simp) ?_
  refine AllReady.cons (o := { dst := some 13, op := Op.load 159 (Operand.tmp 5), type := 159, pos := "mac.go:19", after := #[], guard := none }) rfl (fun K hK => ?_) AllReady.nil
  rw [if_pos (by simp [Region.wanted])]
  refine wp_load_row 159 (.tmp 5) rfl w2.heap.size rfl 159 (kv .u8 B).toArray (0, 0) _ HVB.out.drew Tryd.underlying159 rfl HC75.out ?_
  refine hK _ _ ?_
  clear hK K
  refine wpAny_ready (rs := [1]) (by kernel_rfl) (by simp) ?_
  refine AllReady.cons (o := { dst := some 14, op := Op.call { callee := Callee.value (Operand.func 103), args := #[Operand.tmp 13, Operand.const (Value.int IntKind.u8 92)], argTypes := #[159, 5] }, type := 24, pos := "mac.go:19", after := #[{ on := 0, ground := Ground.data }], guard := none }) rfl (fun K hK => ?_) AllReady.nil
  go_simp
  rw [← hV]
  refine (overlaid_any B 92 V.drew HBL.out).mono ?_
  rintro r w5 ⟨rfl, h5, h5b⟩
  refine hK _ _ ?_
  clear hK K
  have h5c : Below V.heap.size V w5 := below_drew2 h5b
  have hVs : V.drew.heap.size = w4.heap.size + 1 := by
    rw [hV]
    show ((w4.alloc z25).setRow w4.heap.size (kv .u8 I).toArray).heap.size = _
    simp [World.setRow]
  rw [hVs] at h5
  have HO2 := Kp.mk h5
  clear hVs
  have HB5 : Kp (Below w.heap.size w w5) := ⟨HBV.out.trans (h5c.mono HBV.out.size)⟩
  have HOM : Kp ((over B 92).length = 64) := ⟨by rw [over_len, HBL.out]⟩
  have HVA5 := Kp.mk (HVA.out.keep h5c)
  have HH5 := Kp.mk (HH.out.keep h5c)
  clear h5 h5b h5c
  refine wpAny_ready (rs := [3]) (by kernel_rfl) (by simp) ?_
  refine AllReady.cons (o := { dst := some 16, op := Op.call { callee := Callee.value (Operand.func 102), args := #[Operand.tmp 14, Operand.tmp 15], argTypes := #[24, 24] }, type := 80, pos := "mac.go:19", after := #[{ on := 1, ground := Ground.data }, { on := 2, ground := Ground.data }, { on := 1, ground := Ground.chain }], guard := none }) rfl (fun K hK => ?_) AllReady.nil
  go_simp
  refine (msum_any w5.heap.size V.heap.size (.slice (some ⟨w4.heap.size + 1, 0, none⟩) 64 64) (.slice (some ⟨w4.heap.size, 0, none⟩) 32 32) (over B 92) I w5 (HK.out.keep HB5.out) HO2.out HH5.out (by rw [HOM.out, HI.out]; omega)).mono ?_
  rintro r w6 ⟨rfl, h6⟩
  refine hK _ _ ?_
  clear hK K
  have HB6 : Kp (Below w.heap.size w w6) := ⟨HB5.out.trans (h6.mono HB5.out.size)⟩
  have HVA6 := Kp.mk (HVA5.out.keep h6)
  have HCR := Kp.mk (cells25 HRL.out)
  have HZR : Kp ((kv .u8 (fill 32 [])).toArray.size = (kv .u8 (digest (over B 92 ++ I))).toArray.size) := ⟨by rw [kv_size, kv_size, HRL.out]; rfl⟩
  rw [← HE.out] at HCR HZR ⊢
  clear h6
  refine wpAny_ready (rs := [4]) (by kernel_rfl) (by simp) ?_
  refine AllReady.cons (o := { dst := none, op := Op.store 80 (Operand.tmp 4) (Operand.tmp 16), type := 0, pos := "mac.go:19", after := #[{ on := 3, ground := Ground.data }, { on := 3, ground := Ground.chain }, { on := 0, ground := Ground.phase }, { on := 1, ground := Ground.phase }, { on := 2, ground := Ground.phase }, { on := 3, ground := Ground.phase }], guard := none }) rfl (fun K hK => ?_) AllReady.nil
  rw [if_pos (by simp [Region.wanted])]
  refine wp_store_row 80 (.tmp 4) (.tmp 16) rfl A (kv .u8 R).toArray rfl rfl 80 _ HVA6.out HCR.out HZR.out (kv_all _ _) ?_
  refine hK _ _ ?_
  clear hK K
  refine wpAny_done (by kernel_rfl) ?_ _
  have HF := Kp.mk (HVA6.out.setRow R)
  have HBf := Kp.mk (Below.row HB6.out (g := A) (by rw [HA.out]; exact Nat.le_refl _) (kv .u8 R).toArray)
  clear hV
  go_wp2_with fail
  refine bodyPost_ret (v := .agg (kv .u8 R).toArray) ?_ rfl ⟨by rw [HRR.out], HBf.out⟩
  exact results_cell_row rfl _ _ A 80 _ (0, 0) _ rfl HF.out Tryd.underlying80 rfl HCR.out
end Go.Proofs.YtgabjmmmiogfjaaDoor

namespace Go.Proofs.YtgabjmmmiogfjaaDoor
open Go.RowKit

/-- A sum's first half. -/
def halfL (d : List Int) : List Int := d.take 16
theorem halfL_len {d : List Int} (h : d.length = 32) : (halfL d).length = 16 := by simp [halfL, h]
theorem info50 : (Tryd.prog.info? 83).map (·.size) = some 16 := by kernel_rfl
theorem cells50 {l : List Int} (h : l.length = 16) : (Tryd.prog.info? 83).map (·.size) = some (kv .u8 l).toArray.size := by rw [info50, kv_size, h]
abbrev z50 : Obj := .cells (kv .u8 (fill 16 [])).toArray 83
theorem size50 {l : List Int} (h : l.length = 16) : (kv .u8 (fill 16 [])).toArray.size = (kv .u8 l).toArray.size := by rw [kv_size, kv_size, h]; rfl
set_option maxRecDepth 100000 in
theorem slice50_all (b : Nat) (w : World) : (Instr.sliceAt 83 (.pointer (some ⟨b, 0, none⟩)) none none none).run Tryd.prog w = .ok (.slice (some ⟨b, 0, none⟩) 16 16) w := by
  have hl : Tryd.prog.arrayLen 83 = 16 := by kernel_rfl
  have he : Tryd.prog.elem 83 = 5 := by kernel_rfl
  rw [run_sliceAt_array_all (ht := Tryd.underlying83), hl, he, size5]
  rfl
theorem splice_half {d : List Int} (h : d.length = 32) : splice (kv .u8 (fill 16 [])) 0 (kv .u8 (halfL d)) = kv .u8 (halfL d) := by
  unfold splice halfL
  rw [List.take_zero, List.nil_append, List.drop_eq_nil_of_le (by simp [fill, h]), List.append_nil]
set_option maxRecDepth 100000 in
set_option maxHeartbeats 1000000 in
theorem half_any (d : List Int) (w : World) (hd : d.length = 32) :
    Calls Tryd.prog 74 #[.agg (kv .u8 d).toArray] w fun r w' => r = .returned (.agg (kv .u8 (halfL d)).toArray) ∧ Below w.heap.size w w' := by
  have HD := Kp.mk hd
  have HH := Kp.mk (halfL_len hd)
  have HC := Kp.mk (cells50 (halfL_len hd))
  have HZ := Kp.mk (size50 (halfL_len hd))
  have HS := Kp.mk (splice_half hd)
  have HE : Kp (∀ j u, (kv .u8 (halfL d))[j]? = some u → (kv .u8 d)[j]? = some u) := ⟨fun j u h => by
    unfold halfL at h
    rw [← kv_take, List.getElem?_take] at h
    split at h
    · exact h
    · cases h⟩
  clear hd
  go_enter Tryd.func74, Tryd.ntmps74
  go_wp2_with fail
  obtain ⟨A, hA⟩ : ∃ A, A = w.heap.size := ⟨_, rfl⟩
  have HA := Kp.mk hA
  rw [← hA]
  refine wp_world (fun W => Row W A 80 .u8 d ∧ Row W (A + 1) 83 .u8 (fill 16 []) ∧ Row W (A + 2) 83 .u8 (fill 16 []) ∧ Below A w W) ⟨Row.alloc (Row.alloc (Blk.newAt _ hA) z50) z50, Row.alloc (Blk.newAt z50 (by rw [hA]; simp)) z50, Blk.newAt z50 (by rw [hA]; simp), by rw [hA]; exact more (more (more (Below.refl _ _) _) z50) z50⟩ ?_
  rintro W ⟨h1, h2, h3, h4⟩
  have H1 := Kp.mk h1
  have H2 := Kp.mk h2
  have H3 := Kp.mk h3
  have H4 := Kp.mk h4
  have hs := slice25_all
  have hs2 := slice50_all
  clear h1 h2 h3 h4 hA
  refine wp_region_any (by kernel_rfl) ?_
  change wpAny _ _ _ _ _ _ _ (World.drew _)
  refine wpAny_take (i := 0) (v := .slice (some ⟨A + 2, 0, none⟩) 16 16) rfl (by kernel_rfl) (by kernel_rfl) (by kernel_rfl) (fun _ _ _ h => h) (Or.inl ⟨by rfl, ?_⟩) ?_
  · intro w
    go_simp
  refine wpAny_take (i := 1) (v := .slice (some ⟨A, 0, none⟩) 32 32) rfl (by kernel_rfl) (by kernel_rfl) (by kernel_rfl) (fun _ _ _ h => h) (Or.inl ⟨by rfl, ?_⟩) ?_
  · intro w
    go_simp
  refine wpAny_ready (rs := [2]) (by kernel_rfl) (by simp) ?_
  refine AllReady.cons (o := { dst := some 6, op := Op.call { callee := Callee.builtin Builtin.copy, args := #[Operand.tmp 4, Operand.tmp 5], argTypes := #[24, 24] }, type := 3, pos := "mac.go:84", after := #[{ on := 0, ground := Ground.data }, { on := 1, ground := Ground.data }], guard := none }) rfl (fun K hK => ?_) AllReady.nil
  refine step_copy_splice rfl (.tmp 4) (.tmp 5) 24 24 rfl 5 Tryd.underlying24 (by kernel_rfl) (some ⟨A + 2, 0, none⟩) (some ⟨A, 0, none⟩) 16 16 32 32 rfl rfl (A + 2) 0 (kv .u8 (fill 16 [])) 83 H3.out.drew (kv .u8 (halfL d)) (by rw [List.length_map, HH.out]; rfl) (fun _ => ⟨rfl, _, rfl, fun j u hu => ?_⟩) (by rw [List.length_map, List.length_map, HH.out, fill_len (by simp)]; omega) (kv_one _) (A + 2) W.drew (Below.refl _ _) (Nat.le_refl _) ?_
  · have h := HE.out j u hu
    have hr := Blk.cell H1.out.drew j
    rw [List.getElem?_toArray, h] at hr
    have e : (⟨A, 0, none⟩ : Addr).add j = ⟨A, j, none⟩ := by unfold Addr.add; split <;> simp_all
    rw [e]
    exact hr
  intro w4 hg4 hb4
  refine hK _ _ ?_
  clear hK K
  refine wpAny_done (by kernel_rfl) ?_ _
  have G1 : Kp (Row w4 (A + 2) 83 .u8 (halfL d)) := ⟨by have h := hg4.out; rw [HS.out] at h; exact h⟩
  have G2 : Kp (Row w4 (A + 1) 83 .u8 (fill 16 [])) := ⟨H2.out.drew.upto hb4 (by omega)⟩
  have G3 : Kp (Below A w w4) := ⟨H4.out.trans ((below_drew2 hb4).mono (by omega))⟩
  have HF := Kp.mk (G2.out.setRow (halfL d))
  have HBf := Kp.mk (Below.row G3.out (g := A + 1) (by omega) (kv .u8 (halfL d)).toArray)
  clear hg4 hb4 hs hs2
  go_wp2_with (first
    | (refine wpList_load_row rfl 83 (.tmp 3) rfl (A + 2) rfl 83 (kv .u8 (halfL d)).toArray (0, 0) _ G1.out Tryd.underlying83 rfl HC.out ?_)
    | (refine wpList_store_row rfl 83 (.tmp 2) (.tmp 7) rfl (A + 1) (kv .u8 (halfL d)).toArray rfl rfl 83 _ G2.out HC.out HZ.out (kv_all _ _) ?_))
  refine bodyPost_ret (v := .agg (kv .u8 (halfL d)).toArray) ?_ rfl ⟨rfl, by rw [← HA.out]; exact HBf.out⟩
  exact results_cell_row rfl _ _ (A + 1) 83 _ (0, 0) _ rfl HF.out Tryd.underlying83 rfl HC.out
end Go.Proofs.YtgabjmmmiogfjaaDoor

namespace Go.Proofs.YtgabjmmmiogfjaaDoor
open Go.RowKit

theorem macL_len (k p : List Int) : (macL k p).length = 32 := digest_len _
set_option maxRecDepth 100000 in
set_option maxHeartbeats 1000000 in
theorem tag_any (M N : Nat) (v u : Value) (k p : List Int) (w : World) (hk : KonIs w) (hp : HoldsB w M v k) (hq : HoldsB w N u p) (hlen : k.length ≤ 999999999999000) (hlen2 : p.length ≤ 999999999990000) :
    Calls Tryd.prog 35 #[v, u] w fun r w' => r = .returned (.agg (kv .u8 (halfL (macL k p))).toArray) ∧ Below w.heap.size w w' := by
  have HK := Kp.mk hk
  have HP := Kp.mk hp
  have HQ := Kp.mk hq
  have HL := Kp.mk hlen
  have HL2 := Kp.mk hlen2
  clear hk hp hq hlen hlen2
  go_enter Tryd.func35, Tryd.ntmps35
  go_wp2_with fail
  refine calls_world (fun W => Row W w.heap.size 83 .u8 (fill 16 []) ∧ Below w.heap.size w W) ⟨Blk.newAt (w := w) z50 rfl, more (Below.refl _ _) z50⟩ ?_
  rintro w1 ⟨hr, hb⟩
  have HR := Kp.mk hr
  have HB := Kp.mk hb
  clear hr hb
  refine (mac_any M N v u k p w1 (HK.out.keep HB.out) (HP.out.keep HB.out) (HQ.out.keep HB.out) HL.out HL2.out).mono ?_
  rintro r w2 ⟨rfl, h2⟩
  have HR2 := Kp.mk (HR.out.keep h2)
  have HB2 : Kp (Below w.heap.size w w2) := ⟨HB.out.trans (h2.mono HB.out.size)⟩
  have HM := Kp.mk (macL_len k p)
  obtain ⟨d, hd⟩ : ∃ d, d = macL k p := ⟨_, rfl⟩
  rw [← hd] at HM ⊢
  have HD := Kp.mk hd
  clear h2 hd
  go_wp2_with fail
  refine (half_any d w2 HM.out).mono ?_
  rintro r w3 ⟨rfl, h3⟩
  have HR3 := Kp.mk (HR2.out.keep h3)
  have HB3 : Kp (Below w.heap.size w w3) := ⟨HB2.out.trans (h3.mono HB2.out.size)⟩
  have HC := Kp.mk (cells50 (halfL_len HM.out))
  have HZ := Kp.mk (size50 (halfL_len HM.out))
  have HF := Kp.mk (HR3.out.setRow (halfL d))
  have HBf := Kp.mk (Below.row HB3.out (g := w.heap.size) (Nat.le_refl _) (kv .u8 (halfL d)).toArray)
  clear h3
  go_wp2_with (refine wpList_store_row rfl 83 (.tmp 4) (.tmp 8) rfl w.heap.size (kv .u8 (halfL d)).toArray rfl rfl 83 _ HR3.out HC.out HZ.out (kv_all _ _) ?_)
  refine bodyPost_ret (v := .agg (kv .u8 (halfL d)).toArray) ?_ rfl ⟨by rw [HD.out], HBf.out⟩
  exact results_cell_row rfl _ _ w.heap.size 83 _ (0, 0) _ rfl HF.out Tryd.underlying83 rfl HC.out
theorem info49 : (Tryd.prog.info? 40).map (·.size) = some 16 := by kernel_rfl
theorem cells49 {l : List Int} (h : l.length = 16) : (Tryd.prog.info? 40).map (·.size) = some (kv .u8 l).toArray.size := by rw [info49, kv_size, h]
abbrev z49 : Obj := .cells (kv .u8 (fill 16 [])).toArray 40
theorem take_succ_get {l : List Int} {i : Nat} (h : i < l.length) : l.take (i + 1) = l.take i ++ [l.getD i 0] := by
  rw [List.take_succ_eq_append_getElem h, List.getD_eq_getElem?_getD, List.getElem?_eq_getElem h]
  rfl
theorem fill_take {n i : Nat} {l : List Int} (h : i < l.length) (hn : i < n) : (fill n (l.take i)).set i (l.getD i 0) = fill n (l.take (i + 1)) := by
  rw [take_succ_get h]
  have e : (l.take i).length = i := by rw [List.length_take]; omega
  have h2 := fill_set (n := n) (l := l.take i) (by omega) (l.getD i 0)
  rw [e] at h2
  exact h2
set_option maxRecDepth 100000 in
set_option maxHeartbeats 1000000 in
theorem rhalf_any (d : List Int) (w : World) (hd : d.length = 32) :
    Calls Tryd.prog 77 #[.agg (kv .u8 d).toArray] w fun r w' => r = .returned (.agg (kv .u8 (halfL d)).toArray) ∧ Below w.heap.size w w' := by
  have HD := Kp.mk hd
  have HC := Kp.mk (cells49 (halfL_len hd))
  have HZ := Kp.mk (size50 (halfL_len hd))
  clear hd
  go_enter Tryd.func77, Tryd.ntmps77
  go_wp2_with fail
  obtain ⟨A, hA⟩ : ∃ A, A = w.heap.size := ⟨_, rfl⟩
  have HA := Kp.mk hA
  rw [← hA]
  refine wp_world (fun W => Row W A 22 .u8 d ∧ Row W (A + 1) 40 .u8 (fill 16 []) ∧ Row W (A + 2) 40 .u8 (fill 16 []) ∧ Below A w W) ⟨Row.alloc (Row.alloc (Blk.newAt _ hA) z49) z49, Row.alloc (Blk.newAt z49 (by rw [hA]; simp)) z49, Blk.newAt z49 (by rw [hA]; simp), by rw [hA]; exact more (more (more (Below.refl _ _) _) z49) z49⟩ ?_
  rintro W ⟨h1, h2, h3, h4⟩
  have H1 := Kp.mk h1
  have H2 := Kp.mk h2
  have H3 := Kp.mk h3
  have H4 := Kp.mk h4
  clear h1 h2 h3 h4 hA
  go_loopw [4] (fun c wr => ∃ i : Nat, i ≤ 16 ∧ c = .int .i64 i ∧ Row wr A 22 .u8 d ∧ Row wr (A + 1) 40 .u8 (fill 16 []) ∧ Row wr (A + 2) 40 .u8 (fill 16 (d.take i)) ∧ Below A w wr) (fun c _ => 16 - (intOf c).toNat)
  case atStart => exact ⟨0, by omega, rfl, H1.out, H2.out, H3.out, H4.out⟩
  case round =>
    obtain ⟨i, hi, rfl, h1, h2, h3, h4⟩ := hrel
    have G1 := Kp.mk h1
    have G2 := Kp.mk h2
    have G3 := Kp.mk h3
    have G4 := Kp.mk h4
    clear h1 h2 h3 h4 H1 H2 H3 H4
    by_cases hlt : i < 16
    · have c1 := G1.out.cell (i := i) (by rw [HD.out]; omega)
      have c2 := G3.out.cell (i := i) (by rw [fill_len (by rw [List.length_take]; omega)]; exact hlt)
      have f2 := G3.out.frozen i
      have HS := Kp.mk (fill_take (n := 16) (l := d) (i := i) (by rw [HD.out]; omega) hlt)
      generalize d.getD i 0 = x at *
      go_wp2_with fail
      exact ⟨⟨i + 1, by omega, by go_num, G1.out.other (by show A + 2 ≠ A; omega) _, G2.out.other (by show A + 2 ≠ A + 1; omega) _, (G3.out.set i _).as HS.out, G4.out.setCell (by show A ≤ A + 2; omega) _⟩, by simp [intOf]; omega⟩
    · have HI : Kp (i = 16) := ⟨by omega⟩
      have hge : 16 ≤ (i : Int) := by omega
      have G5 : Kp (Row wr (A + 2) 40 .u8 (halfL d)) := ⟨by
        have h := G3.out
        rw [HI.out, fill_full (by rw [List.length_take, HD.out]; rfl)] at h
        exact h⟩
      have HF := Kp.mk (G2.out.setRow (halfL d))
      have HBf := Kp.mk (Below.row G4.out (g := A + 1) (by omega) (kv .u8 (halfL d)).toArray)
      clear hlt hi G3
      go_wp2_with (first
        | (refine wpList_load_row rfl 40 (.tmp 3) rfl (A + 2) rfl 40 (kv .u8 (halfL d)).toArray (0, 0) _ G5.out Tryd.underlying40 rfl HC.out ?_)
        | (refine wpList_store_row rfl 40 (.tmp 2) (.tmp 14) rfl (A + 1) (kv .u8 (halfL d)).toArray rfl rfl 40 _ G2.out HC.out HZ.out (kv_all _ _) ?_))
      refine bodyPost_ret (v := .agg (kv .u8 (halfL d)).toArray) ?_ rfl ⟨rfl, by rw [← HA.out]; exact HBf.out⟩
      exact results_cell_row rfl _ _ (A + 1) 40 _ (0, 0) _ rfl HF.out Tryd.underlying40 rfl HC.out
end Go.Proofs.YtgabjmmmiogfjaaDoor

namespace Go.Proofs.YtgabjmmmiogfjaaDoor
open Go.RowKit

set_option maxRecDepth 100000 in
/-- append of bytes that stand somewhere, to a row of the call's own. -/
theorem wpList_append_holds {w : World} {ops : Array Oper} {rest : List Oper} {o : Oper} {a : Act} {Q : Exit → Act → World → Prop} (hgd : o.guard = none) (s x : Operand)
    (ho : o.op = .call { callee := .builtin .append, args := #[s, x], argTypes := #[24, 24] })
    (base : Nat) (v : Value) (n : Nat) (xs : List Value) (hs : a.eval s = v) (hown : w.ownsRow base 5 1 v n xs)
    (M : Nat) (u : Value) (p : List Int) (hx : a.eval x = u) (hp : HoldsB w M u p) (h63 : n + p.length ≤ 140737488355328) (hbase : base ≤ w.heap.size)
    (h : ∀ v' w', w'.ownsRow base 5 1 v' (n + p.length) (xs ++ bv p) → w.grownBy w' v.ownBlock → wpList Tryd.prog ops Q rest (a.put o.dst v') w') : wpList Tryd.prog ops Q (o :: rest) a w := by
  obtain ⟨i0, hi, hz0, hz1, hz2⟩ := info_parts info5
  obtain ⟨ad, m, cap, rfl, hm⟩ := hp.slice
  cases ad with
  | none =>
    obtain ⟨a', cap', h1, h2, h3, h4, h5, h6, h7⟩ := hp
    simp only [Value.slice.injEq] at h1
    have hc := h4 h1.1.symm
    have hl : p = [] := List.length_eq_zero_iff.1 (by omega)
    subst hl
    have hx' : a.eval x = .slice none 0 0 := by rw [hx]; simp only [Value.slice.injEq, true_and]; exact ⟨by simpa using hm, by omega⟩
    exact wpList_append_own_none hgd s x 24 ho base 5 i0 1 Tryd.underlying24 hi v n xs hs hown hx' (h v w (by simpa using hown) ⟨rfl, rfl, rfl, Nat.le_refl _, fun _ _ _ => rfl⟩)
  | some ad =>
    refine wpList_append_own w hgd s x 24 ho base 5 i0 (.int .u8 0) 1 1 Tryd.underlying24 hi hz0 hz1 hz2 rfl (by decide) v n xs hs hown ad m cap (bv p) hx (by rw [bv_len]; omega) hp.news (bv_one _) (by unfold maxLen; omega) (by omega) hbase fun v' w' h1 h2 _ => ?_
    rw [hm] at h1
    exact h v' w' h1 h2
theorem row_slice {w : World} {base n : Nat} {v : Value} {xs : List Value} (h : w.ownsRow base 5 1 v n xs) : ∃ a c, v = .slice a n c := by
  rcases h.2 with ⟨rfl, hn⟩ | ⟨g, cap, cur, rfl, _⟩
  · subst hn; exact ⟨_, _, rfl⟩
  · exact ⟨_, _, rfl⟩
/-- One byte in a new block, as a slice. -/
theorem one_holds (w : World) (x : Int) (h : 0 ≤ x ∧ x ≤ 255) : HoldsB (w.alloc (.cells #[.int .u8 x] 5)) (w.alloc (.cells #[.int .u8 x] 5)).heap.size (.slice (some ⟨w.heap.size, 0, none⟩) 1 1) [x] :=
  HoldsB.ofRow2 (off := 0) (Blk.new w _) rfl (Nat.le_refl _) (by unfold maxLen; omega) (fun i hi => match i, hi with | 0, _ => rfl | i + 1, hi => absurd hi (by simp)) (fun y hy => by simp at hy; subst hy; exact h)
/-- What stands in the length's bytes behind j rounds. -/
def lowst (E : Int) (j : Nat) : List Int := List.replicate (8 - j) 0 ++ (be64 E).drop (8 - j)
theorem lowst_len (E : Int) (j : Nat) (_h : j ≤ 8) : (lowst E j).length = 8 := by simp [lowst, be64_len]
theorem lowst_zero (E : Int) : lowst E 0 = List.replicate 8 0 := by simp [lowst, be64]
theorem lowst_full (E : Int) : lowst E 8 = be64 E := by simp [lowst]
theorem lowst_set (E : Int) (j : Nat) (h : j < 8) : (lowst E j).set (7 - j) (E / 256 ^ j % 256) = lowst E (j + 1) := by
  match j, h with
  | 0, _ => exact (show [0, 0, 0, 0, 0, 0, 0, E / 256 ^ 0 % 256] = lowst E 1 from rfl)
  | 1, _ => rfl
  | 2, _ => rfl
  | 3, _ => rfl
  | 4, _ => rfl
  | 5, _ => rfl
  | 6, _ => rfl
  | 7, _ => rfl
theorem be64_bytes (E : Int) : Bytes (be64 E) := by
  intro x hx
  unfold be64 at hx
  obtain ⟨i, _, rfl⟩ := List.mem_map.1 hx
  omega
set_option maxRecDepth 100000 in
theorem slice74_all (b : Nat) (w : World) : (Instr.sliceAt 175 (.pointer (some ⟨b, 0, none⟩)) none none none).run Tryd.prog w = .ok (.slice (some ⟨b, 0, none⟩) 8 8) w := by
  have hl : Tryd.prog.arrayLen 175 = 8 := by kernel_rfl
  have he : Tryd.prog.elem 175 = 5 := by kernel_rfl
  rw [run_sliceAt_array_all (ht := Tryd.underlying175), hl, he, size5]
  rfl
theorem ownsRow_set {w : World} {base n size D i : Nat} {e : TypeId} {v x : Value} {xs : List Value} (h : w.ownsRow base e size v n xs) (hne : v.ownBlock ≠ some D) : (w.setCell ⟨D, i, none⟩ x).ownsRow base e size v n xs :=
  h.kept (row := some D) ⟨rfl, rfl, rfl, by simp [World.setCell], fun k _ hk => Below.heap_setCell _ _ _ _ (fun e => hk (by simp [e]))⟩ (Or.inr hne)
def sliceLen : Value → Nat
  | .slice _ n _ => n
  | _ => 0
abbrev pre (p : List Int) (k : Nat) : List Int := p ++ ([128] ++ List.replicate k 0)
theorem pre_len (p : List Int) (k : Nat) : (pre p k).length = p.length + 1 + k := by simp; omega
theorem pre_succ (p : List Int) (k : Nat) : pre p (k + 1) = pre p k ++ [0] := by
  unfold pre
  rw [List.replicate_succ']
  simp
theorem pre_pad (p : List Int) : pre p (zeros p.length) ++ be64 (8 * (p.length : Int) % 18446744073709551616) = pad p := by
  unfold pre pad tail
  simp
set_option maxRecDepth 100000 in
set_option maxHeartbeats 2000000 in
theorem pad_any (M : Nat) (v : Value) (p : List Int) (w : World) (h : HoldsB w M v p) (hlen : p.length ≤ 140737488351400) :
    Calls Tryd.prog 111 #[v] w fun r w' => ∃ v', r = .returned v' ∧ w'.ownsRow w.heap.size 5 1 v' (pad p).length (bv (pad p)) ∧ Below w.heap.size w w' := by
  have H := Kp.mk h
  obtain ⟨a, len, cap, rfl, hn⟩ := h.slice
  have HN := Kp.mk hn
  have hl : len ≤ 140737488351400 := by omega
  clear h hn hlen
  go_enter Tryd.func111, Tryd.ntmps111
  go_wp2_with (at_builtin; refine wpList_append_holds rfl _ _ rfl w.heap.size _ _ _ rfl (World.ownsRow_made w #[] 0 (Nat.le_refl _) (by unfold maxLen; omega) rfl) M _ p rfl (H.out.alloc _) ?c0 ?c1 ?_)
  case c0 => have := HN.out; omega
  case c1 => simp
  intro v1 w1 ho hg
  have hbel : Below w.heap.size w w1 := below_row_grown (more (Below.refl _ _) (.cells #[] 5)) (by simp) (World.ownsRow_made (e := 5) (size := 1) w #[] 0 (Nat.le_refl _) (by unfold maxLen; omega) rfl) hg
  have ho1 : w1.ownsRow w.heap.size 5 1 v1 len (bv p) := by
    rw [HN.out]
    simpa using ho
  obtain ⟨a1, c1, rfl⟩ := row_slice ho1
  have HO1 := Kp.mk ho1
  have HB1 := Kp.mk hbel
  clear ho hg hbel ho1
  go_wp2_with (at_builtin; refine wpList_append_holds rfl _ _ rfl w.heap.size _ _ _ rfl (HO1.out.alloc _) _ _ [128] rfl (one_holds w1 128 (by omega)) ?d0 ?d1 ?_)
  case d0 => simp; omega
  case d1 => have := HB1.out.size; simp; omega
  intro v2 w2 ho hg
  have hbel : Below w.heap.size w w2 := below_row_grown (HB1.out.alloc HB1.out.size _) (by have := HB1.out.size; simp; omega) (HO1.out.alloc _) hg
  obtain ⟨L0, hL0⟩ : ∃ L0, L0 = len + 1 := ⟨_, rfl⟩
  have ho2 : w2.ownsRow w.heap.size 5 1 v2 L0 (bv (pre p 0)) := by
    have e : bv (pre p 0) = bv p ++ bv [128] := by simp
    rw [e, hL0]
    simpa using ho
  obtain ⟨a2, c2, rfl⟩ := row_slice ho2
  have HO2 := Kp.mk ho2
  have HB2 := Kp.mk hbel
  clear ho hg hbel ho2 HO1 HB1
  obtain ⟨z, hz⟩ : ∃ z, z = zeros len := ⟨_, rfl⟩
  have hz63 : z ≤ 63 := by rw [hz]; unfold zeros; omega
  have hzm : (L0 + z) % 64 = 56 := by rw [hz]; unfold zeros; omega
  have hzl : ∀ k, k < z → (L0 + k) % 64 ≠ 56 := by rw [hz]; unfold zeros; omega
  have HL0 := Kp.mk hL0
  have hlb : L0 ≤ 140737488351401 := by omega
  have HZ := Kp.mk hz
  have HZM := Kp.mk hzm
  have HZL := Kp.mk hzl
  clear hz hzm hzl hL0
  go_wp2_with fail
  go_loopw [3] (fun s3 wr => ∃ (k : Nat) (a3 : Option Addr) (c3 : Nat), k ≤ z ∧ s3 = .slice a3 (L0 + k) c3 ∧ Kp (wr.ownsRow w.heap.size 5 1 (.slice a3 (L0 + k) c3) (L0 + k) (bv (pre p k))) ∧ Below w.heap.size w wr) (fun s3 _ => L0 + z - sliceLen s3)
  case atStart => exact ⟨0, a2, c2, by omega, rfl, HO2, HB2.out⟩
  case round =>
    obtain ⟨k, a3, c3, hk, rfl, HO3, hbe⟩ := hrel
    have HB3 := Kp.mk hbe
    clear hbe HO2 HB2
    obtain ⟨L, hL⟩ : ∃ L, L = L0 + k := ⟨_, rfl⟩
    rw [← hL] at HO3
    rw [← hL]
    by_cases hlt : k < z
    · have hne := HZL.out k hlt
      rw [← hL] at hne
      have t1 : ((L : Int) % 64 == 56) = false := by rw [beq_eq_false_iff_ne]; omega
      have t2 : ((L : Int) % 64 != 56) = true := by rw [bne_iff_ne]; omega
      have hb : L ≤ 140737488352000 := by omega
      have HLe := Kp.mk hL
      clear hL hne
      go_wp2_with (at_builtin; refine wpList_append_holds rfl _ _ rfl w.heap.size _ _ _ rfl (HO3.out.alloc _) _ _ [0] rfl (one_holds wr 0 (by omega)) ?e0 ?e1 ?_)
      case e0 => simp; omega
      case e1 => have := HB3.out.size; simp; omega
      intro v4 w4 ho hg
      have hbel : Below w.heap.size w w4 := below_row_grown (HB3.out.alloc HB3.out.size _) (by have := HB3.out.size; simp; omega) (HO3.out.alloc _) hg
      have ho4 : w4.ownsRow w.heap.size 5 1 v4 (L0 + (k + 1)) (bv (pre p (k + 1))) := by
        rw [pre_succ, ← Nat.add_assoc, ← HLe.out]
        simpa using ho
      obtain ⟨a4, c4, rfl⟩ := row_slice ho4
      have HO4 := Kp.mk ho4
      have HB4 := Kp.mk hbel
      clear ho hg hbel ho4
      go_wp2_with fail
      refine ⟨⟨k + 1, a4, c4, by omega, rfl, HO4, HB4.out⟩, ?_⟩
      rw [HLe.out]
      simp [sliceLen]
      omega
    · have HK : Kp (k = z) := ⟨by omega⟩
      have hmm := HZM.out
      rw [← HK.out, ← hL] at hmm
      have t1 : ((L : Int) % 64 == 56) = true := by rw [beq_iff_eq]; omega
      have t2 : ((L : Int) % 64 != 56) = false := by rw [bne_eq_false_iff_eq]; omega
      have hb : L ≤ 140737488352000 := by omega
      have HLe := Kp.mk hL
      have HO5 : Kp (wr.ownsRow w.heap.size 5 1 (.slice a3 L c3) L (bv (pre p z))) := by
        have h := HO3.out
        rw [HK.out] at h
        exact ⟨h⟩
      clear hL hmm hlt hk HO3
      obtain ⟨D, hD⟩ : ∃ D, D = wr.heap.size := ⟨_, rfl⟩
      have HD := Kp.mk hD
      clear hD
      go_wp2_with fail
      rw [← HD.out]
      generalize hE : (len : Int) * 8 = E
      have e0 : 0 ≤ E := by omega
      have e1 : E ≤ 9000000000000000 := by omega
      have HE : Kp (8 * (p.length : Int) % 18446744073709551616 = E) := ⟨by have := HN.out; omega⟩
      clear hE t1 t2
      refine wp_world (fun W => Row W D 175 .u8 (lowst E 0) ∧ W.ownsRow w.heap.size 5 1 (.slice a3 L c3) L (bv (pre p z)) ∧ Below w.heap.size w W) ⟨by rw [lowst_zero]; exact Blk.newAt _ HD.out, HO5.out.alloc _, HB3.out.alloc HB3.out.size _⟩ ?_
      rintro w5 ⟨h1, h2, h3⟩
      have HDB : Kp (w.heap.size ≤ D ∧ (∀ g, a3 = some g → g.block ≠ D)) := ⟨⟨by rw [HD.out]; exact HB3.out.size, fun g hg => by
        subst hg
        have := (HO5.out.lt g.block (by simp [Value.ownBlock])).2
        rw [HD.out]
        omega⟩⟩
      have F1 := Kp.mk h1
      have F2 := Kp.mk h2
      have F3 := Kp.mk h3
      clear h1 h2 h3 HO5 HD HB3
      go_loopw [4, 6] (fun q c wr => ∃ j : Nat, j ≤ 8 ∧ c = .int .i64 ((7 : Int) - j) ∧ q = .int .u64 (E / 256 ^ j) ∧ Row wr D 175 .u8 (lowst E j) ∧ wr.ownsRow w.heap.size 5 1 (.slice a3 L c3) L (bv (pre p z)) ∧ Below w.heap.size w wr) (fun _ c _ => (intOf c + 1).toNat)
      case atStart => exact ⟨0, by omega, rfl, by simp, F1.out, F2.out, F3.out⟩
      case round =>
        obtain ⟨j, hj, rfl, rfl, h1, h2, h3⟩ := hrel
        have G1 := Kp.mk h1
        have G2 := Kp.mk h2
        have G3 := Kp.mk h3
        clear h1 h2 h3 F1 F2 F3
        have q0 : 0 ≤ E / 256 ^ j := Int.ediv_nonneg e0 (Int.pow_nonneg (by decide))
        have q1 : E / 256 ^ j ≤ 9000000000000000 := Int.le_trans (Int.ediv_le_self _ e0) e1
        have HQ : Kp (E / 256 ^ j / 256 = E / 256 ^ (j + 1)) := ⟨by rw [Int.ediv_ediv_of_nonneg (Int.pow_nonneg (by decide)), Int.pow_succ]⟩
        have HS := fun h => Kp.mk (lowst_set E j h)
        generalize hQ : E / 256 ^ j = Q at *
        by_cases hlj : j < 8
        · have HS2 := HS hlj
          clear HS
          obtain ⟨i, hi⟩ : ∃ i : Nat, (7 : Int) - j = i := ⟨7 - j, by omega⟩
          have HI : Kp (i = 7 - j ∧ i < 8) := ⟨by omega⟩
          rw [hi]
          have i8 : i < 8 := by omega
          have cw := G1.out.cell (i := i) (by rw [lowst_len E j hj]; exact i8)
          have fw := G1.out.frozen i
          have HHi := Kp.mk hi
          clear hi hQ
          go_wp2_with fail
          refine ⟨⟨j + 1, by omega, ?_, ?_, ?_, ?_, G3.out.setCell HDB.out.1 _⟩, by simp [intOf]⟩
          · have := HHi.out
            congr 1
            omega
          · rw [HQ.out]
          · refine (G1.out.set i _).as ?_
            rw [HI.out.1]
            exact HS2.out
          · refine ownsRow_set G2.out ?_
            cases a3 with
            | none => simp [Value.ownBlock]
            | some g => simp only [Value.ownBlock, ne_eq, Option.some.injEq]; exact HDB.out.2 g rfl
        · have HJ : Kp (j = 8) := ⟨by omega⟩
          obtain ⟨i, hi⟩ : ∃ i : Int, (7 : Int) - j = i := ⟨_, rfl⟩
          rw [hi]
          have i0 : i < 0 := by omega
          have hs := slice74_all D
          have G4 : Kp (Row wr D 175 .u8 (be64 E)) := by
            have h := G1.out
            rw [HJ.out, lowst_full] at h
            exact ⟨h⟩
          have HH : Kp (HoldsB wr wr.heap.size (.slice (some ⟨D, 0, none⟩) 8 8) (be64 E)) :=
            ⟨HoldsB.ofRow2 (off := 0) G4.out (be64_len E).symm (Nat.le_refl _) (by unfold maxLen; omega) (fun i hi => by simp [List.getElem?_eq_getElem hi, List.getD_eq_getElem?_getD]) (be64_bytes E)⟩
          have HLn : Kp (L = L0 + z) := ⟨by have := HLe.out; have := HK.out; omega⟩
          clear HS hi hQ G1 hlj hj
          go_wp2_with (at_builtin; refine wpList_append_holds rfl _ _ rfl w.heap.size _ _ _ rfl G2.out _ _ (be64 E) rfl HH.out ?f0 ?f1 ?_)
          case f0 => rw [be64_len]; omega
          case f1 => exact G3.out.size
          intro v6 w6 ho hg
          have hbel : Below w.heap.size w w6 := below_row_grown G3.out G3.out.size G2.out hg
          have ho6 : w6.ownsRow w.heap.size 5 1 v6 (pad p).length (bv (pad p)) := by
            have e1 : pre p z ++ be64 E = pad p := by rw [HZ.out, HN.out, ← HE.out]; exact pre_pad p
            rw [be64_len] at ho
            have e2 : bv (pad p) = bv (pre p z) ++ bv (be64 E) := by rw [← e1]; simp
            have e3 : (pad p).length = L + 8 := by rw [← e1, List.length_append, pre_len, be64_len]; have := HLn.out; have := HL0.out; have := HN.out; omega
            rw [e2, e3]
            simpa using ho
          have HO6 := Kp.mk ho6
          have HB6 := Kp.mk hbel
          clear ho hg hbel ho6 hs
          go_wp2_with fail
          go_ret
          exact ⟨_, rfl, HO6.out, HB6.out⟩
end Go.Proofs.YtgabjmmmiogfjaaDoor
