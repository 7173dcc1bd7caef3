/-
  frame.Seal.
-/
import Derived.Test.YtgabjmmmiogfjaaDoorFrC
import Derived.Test.YtgabjmmmiogfjaaDoorRtF
namespace Go.Proofs.YtgabjmmmiogfjaaDoor
open Go.RowKit

theorem results_tmp2 {P : Program} {fn : Func} {p q : Tmp} (h : fn.results = #[.tmp p, .tmp q]) (tmps : Array Value) (w : World) (u v : Value) (hp : tmps.getD p undef = u := by rfl) (hq : tmps.getD q undef = v := by rfl) :
    (results fn tmps).run P w = .ok (.tuple #[u, v]) w := by
  have hp' : tmps[p]?.getD undef = u := by simpa using hp
  have hq' : tmps[q]?.getD undef = v := by simpa using hq
  simp [results, h, hp', hq']
theorem info80s : (Tryd.prog.info? 80).map (·.size) = some 32 := by kernel_rfl
theorem cells80 {l : List Int} (h : l.length = 32) : (Tryd.prog.info? 80).map (·.size) = some (kv .u8 l).toArray.size := by rw [info80s, kv_size, h]
theorem infoz83 : (Tryd.prog.info? 83).map (fun i => (i.zero, i.size)) = some (some (.agg (kv .u8 (fill 16 [])).toArray), 16) := by kernel_rfl
theorem info83s : (Tryd.prog.info? 83).map (·.size) = some 16 := by kernel_rfl
theorem cells83 {l : List Int} (h : l.length = 16) : (Tryd.prog.info? 83).map (·.size) = some (kv .u8 l).toArray.size := by rw [info83s, kv_size, h]
theorem size83 {l : List Int} (h : l.length = 16) : (kv .u8 (fill 16 [])).toArray.size = (kv .u8 l).toArray.size := by rw [kv_size, kv_size, h]; rfl
set_option maxRecDepth 100000 in
theorem slice83_all (b : Nat) (w : World) : (Instr.sliceAt 83 (.pointer (some ⟨b, 0, none⟩)) none none none).run Tryd.prog w = .ok (.slice (some ⟨b, 0, none⟩) 16 16) w := by
  have hl : Tryd.prog.arrayLen 83 = 16 := by kernel_rfl
  have he : Tryd.prog.elem 83 = 5 := by kernel_rfl
  rw [run_sliceAt_array_all (ht := Tryd.underlying83), hl, he, size5]
  rfl
theorem info30s : (Tryd.prog.info? 30).map (·.size) = some 6 := by kernel_rfl
theorem Turn.ofRow {w : World} {g : Nat} {old : Array Value} {t : TypeId} (h : Blk w g (.cells old t)) (cs : Array Value) : Turn g (.cells cs t) w (w.setRow g cs) :=
  ⟨rfl, rfl, rfl, by simp [World.setRow], Blk.setRow h cs, fun k _ hne => setRow_other w g k cs hne⟩
theorem ownsRow_off {w w' : World} {base b size n : Nat} {e : TypeId} {v : Value} {xs : List Value} {o : Obj} (h : w.ownsRow base e size v n xs) (hT : Turn b o w w') (hb : v.ownBlock ≠ some b) : w'.ownsRow base e size v n xs := by
  refine h.kept hT.grown ?_
  cases hv : v.ownBlock with
  | none => exact .inl rfl
  | some k =>
    refine .inr fun e => hb ?_
    rw [hv]
    simpa using e
/-- What is tagged, and the tag. -/
def tagM (key : List Int) (b : List Int) : List Int := halfL (macL key b)
def sealM (key : List Int) (p : FV) (tp : List Int) : List Int := laidM p tp ++ tagM key (laidM p tp)
theorem macL_len' (k p : List Int) : (macL k p).length = 32 := digest_len _
theorem tagM_len (key b : List Int) : (tagM key b).length = 16 := halfL_len (macL_len' _ _)
theorem tagM_bytes (key b : List Int) : Bytes (tagM key b) := by
  unfold tagM halfL
  first | exact (digest_bytes _).take _ | exact Bytes.take (digest_bytes _) _
def SealPost (key : List Int) (p : FV) (tp : List Int) (w : World) (r : Ending) (w' : World) : Prop :=
  ∃ v, r = .returned (.tuple #[v, .int .i64 0]) ∧ w'.ownsRow w.heap.size 5 1 v (sealM key p tp).length (bv (sealM key p tp)) ∧ Bytes (sealM key p tp) ∧ Below w.heap.size w w'
set_option maxRecDepth 100000 in
set_option maxHeartbeats 2000000 in
theorem seal_bad (key : List Int) (p : FV) (w : World) (hkey : key.length = 32) (h : frB p = false) :
    Calls Tryd.prog 8 #[dgV key, p.v] w fun r w' => r = .returned (.tuple #[.slice none 0 0, .int .i64 1]) ∧ Below w.heap.size w w' := by
  have hC := fun (w : World) => box_row (t := 80) (cs := kv .u8 key) (cells80 hkey) w
  obtain ⟨K, hK⟩ : ∃ K, K = w.heap.size := ⟨_, rfl⟩
  have HK := Kp.mk hK
  clear hK hkey
  go_enter Tryd.func8, Tryd.ntmps8
  go_wp2_with (refine wpList_box_eq rfl 80 (.tmp 0) rfl _ rfl _ _ (hC _) ?_; rw [← HK.out]; refine wpl_world (fun w2 => Below K w w2 ∧ K + 1 = w2.heap.size) ⟨by rw [HK.out]; exact more (Below.refl _ _) _, by simp [HK.out]⟩ ?_; rintro W1 ⟨h1, h2⟩; have K1 := Kp.mk h1; have K2 := Kp.mk h2; clear h1 h2)
  refine (right_any p _).mono ?_
  rintro r w1 ⟨rfl, hb⟩
  have HB1 : Kp (Below K w w1) := ⟨(K1.out.alloc (by have := K2.out; omega) _).trans (hb.mono (by have := K2.out; simp; omega))⟩
  clear hb
  rw [h]
  go_wp2_with fail
  exact bodyPost_ret (results_tmp2 rfl _ _ _ _) rfl ⟨rfl, by rw [← HK.out]; exact HB1.out⟩
set_option maxRecDepth 100000 in
set_option maxHeartbeats 4000000 in
theorem seal_good (key : List Int) (p : FV) (tp : List Int) (w : World) (hk : KonIs w) (hkey : key.length = 32 ∧ Bytes key) (h : HoldsB w w.heap.size (.slice p.a p.n p.c) tp) (hr : frB p = true) (hid : BigP p) :
    Calls Tryd.prog 8 #[dgV key, p.v] w (SealPost key p tp w) := by
  have hC := fun (w : World) => box_row (t := 80) (cs := kv .u8 key) (cells80 hkey.1) w
  obtain ⟨K, hK⟩ : ∃ K, K = w.heap.size := ⟨_, rfl⟩
  have HK := Kp.mk hK
  have HKON := Kp.mk hk
  have HKEY := Kp.mk hkey
  have H := Kp.mk h
  have HR := Kp.mk hr
  have HID := Kp.mk hid
  obtain ⟨i0, hi, hz0, hz1, hz2⟩ := info_parts info5
  have hn : p.n = tp.length := by
    obtain ⟨a1, n1, c1, e1, e2⟩ := h.slice
    simp only [Value.slice.injEq] at e1
    omega
  have HNT : Kp (tp.length ≤ 4096) := ⟨by rw [← hn]; exact (frB_is hr).2.2.2.2.2.2.2⟩
  have hs80 := slice25_all K
  clear hK hk hkey h hr hid hn
  go_enter Tryd.func8, Tryd.ntmps8
  go_wp2_with (refine wpList_box_eq rfl 80 (.tmp 0) rfl _ rfl _ _ (hC _) ?_; rw [← HK.out]; refine wpl_world (fun w2 => Row w2 K 80 .u8 key ∧ Below K w w2 ∧ K + 1 = w2.heap.size) ⟨Blk.newAt _ HK.out, by rw [HK.out]; exact more (Below.refl _ _) _, by simp [HK.out]⟩ ?_; rintro W1 ⟨h0, h1, h2⟩; have K0 := Kp.mk h0; have K1 := Kp.mk h1; have K2 := Kp.mk h2; clear h0 h1 h2)
  clear hC
  refine (right_any p _).mono ?_
  rintro r w1 ⟨rfl, hb⟩
  rw [HR.out]
  have Q0 : Kp (Row w1 K 80 .u8 key) := ⟨(K0.out.alloc _).keep hb⟩
  have Q1 : Kp (Blk w1 (K + 1) (p.box 30)) := ⟨(Blk.newAt _ K2.out).keep hb⟩
  have Q2 : Kp (Below K w w1) := ⟨(K1.out.alloc (by have := K2.out; omega) _).trans (hb.mono (by have := K2.out; simp; omega))⟩
  rw [← K2.out]
  clear hb K0 K1
  go_wp2_with (refine wpList_load_row rfl 30 (.tmp 3) rfl (K + 1) rfl 30 #[.int .i64 p.fr, .int .i64 p.to, .int .u64 p.bo, .int .u64 p.co, .int .i64 p.ki, .slice p.a p.n p.c] (0, 0) _ Q1.out Tryd.underlying30 rfl info30s ?_)
  refine (laid_any p tp w1 ((H.out.frame Q2.out.size (fun k hk _ => Q2.out.block k (by rw [HK.out]; exact hk))).mono (by have := Q2.out.size; exact this)) HR.out HID.out).mono ?_
  rintro r w2 ⟨v2, rfl, ho, hy, hb⟩
  have R0 : Kp (Row w2 K 80 .u8 key) := ⟨Q0.out.keep hb⟩
  have R2 : Kp (Below K w w2) := ⟨Q2.out.trans (hb.mono (by rw [HK.out]; exact Q2.out.size))⟩
  obtain ⟨L, hL⟩ : ∃ L, L = laidM p tp := ⟨_, rfl⟩
  have HLE := Kp.mk hL
  have HLN : Kp (L.length ≤ 5000) := ⟨by rw [hL, laidM_len]; have := HNT.out; omega⟩
  rw [← hL] at ho hy
  have RO : Kp (w2.ownsRow K 5 1 v2 L.length (bv L)) := ⟨ownsRow_base ho (by rw [HK.out]; exact Q2.out.size)⟩
  have RY := Kp.mk hy
  clear ho hy hb hL Q0 Q1 Q2
  go_wp2_with fail
  have hkh : HoldsB w2 w2.heap.size (.slice (some ⟨K, 0, none⟩) 32 32) key := by
    have := HoldsB.ofBytes R0.out HKEY.out.2 (by rw [HKEY.out.1]; decide)
    rw [HKEY.out.1] at this
    exact this
  refine (tag_any w2.heap.size w2.heap.size _ _ key L w2 (HKON.out.frame (R2.out.block 0 (by rw [HK.out]; exact HKON.out.pos))) hkh (HoldsB.ofRow RY.out RO.out) (by rw [HKEY.out.1]; decide) (by have := HLN.out; omega)).mono ?_
  rintro r w3 ⟨rfl, hb⟩
  have S2 : Kp (Below K w w3) := ⟨R2.out.trans (hb.mono (by rw [HK.out]; exact R2.out.size))⟩
  have SO : Kp (w3.ownsRow K 5 1 v2 L.length (bv L)) := ⟨ownsRow_below RO.out hb⟩
  clear hb R0 R2 RO hkh
  obtain ⟨T, hT⟩ : ∃ T, T = tagM key L := ⟨_, rfl⟩
  have HT : Kp (T.length = 16 ∧ Bytes T) := ⟨by rw [hT]; exact ⟨tagM_len _ _, tagM_bytes _ _⟩⟩
  have HTE := Kp.mk hT
  rw [show halfL (macL key L) = T from hT.symm]
  clear hT
  obtain ⟨G, hG⟩ : ∃ G, G = w3.heap.size := ⟨_, rfl⟩
  have HG := Kp.mk hG
  have hs83 := slice83_all G
  have HLT : Kp (v2.ownBlock ≠ some G) := ⟨fun e => by have := (SO.out.lt G e).2; omega⟩
  clear hG
  go_wp2_with (first
    | (refine wpList_alloc_row rfl 83 rfl _ _ infoz83 ?_; rw [← HG.out]; refine wpl_world (w := w3.alloc (.cells (kv .u8 (fill 16 [])).toArray 83)) (fun w4 => Row w4 G 83 .u8 (fill 16 []) ∧ Below K w w4 ∧ w4.ownsRow K 5 1 v2 L.length (bv L)) ⟨Blk.newAt _ HG.out, S2.out.alloc (by rw [HK.out]; exact S2.out.size) _, ownsRow_below SO.out (more (Below.refl _ _) _)⟩ ?_; rintro w4 h1; have H4 := Kp.mk h1; clear h1)
    | (refine wpList_store_row rfl 83 (.tmp 7) (.tmp 15) rfl G (kv .u8 T).toArray rfl rfl 83 _ H4.out.1 (cells83 HT.out.1) (size83 HT.out.1) (kv_all _ _) ?_; refine wpl_world (w := w4.setRow G (kv .u8 T).toArray) (fun w5 => Row w5 G 83 .u8 T ∧ Below K w w5 ∧ w5.ownsRow K 5 1 v2 L.length (bv L)) ⟨H4.out.1.setRow T, Below.row H4.out.2.1 (by rw [HG.out, HK.out]; exact S2.out.size) _, ownsRow_off H4.out.2.2 (Turn.ofRow H4.out.1 _) HLT.out⟩ ?_; rintro w5 h1; have H5 := Kp.mk h1; clear h1)
    | (at_builtin; refine wpList_append_own2F rfl _ _ 24 rfl K 5 i0 (.int .u8 0) 1 1 Tryd.underlying24 hi hz0 hz1 hz2 rfl (by decide) _ _ _ rfl H5.out.2.2 ⟨G, 0, none⟩ 16 16 (bv T) rfl ?c0 ?c1 ?c2 ?c3 ?c4 ?c5 ?_))
  case c0 => rw [bv_len, HT.out.1]
  case c1 => exact (HoldsB.ofBytes H5.out.1 HT.out.2 (by rw [HT.out.1]; decide)).news
  case c2 => exact bv_one _
  case c3 => have := HLN.out; unfold maxLen; omega
  case c4 => have := HLN.out; omega
  case c5 => rw [HK.out]; exact H5.out.2.1.size
  intro v6 w6 ho6 hg6 hn6
  have H6 := Kp.mk ho6
  have HG6 := Kp.mk hg6
  have HB6 : Kp (Below K w w6) := ⟨below_row_grown H5.out.2.1 (by rw [HK.out]; exact H5.out.2.1.size) H5.out.2.2 hg6⟩
  clear ho6 hg6 hn6
  go_wp2_with fail
  refine bodyPost_ret (results_tmp2 rfl _ _ _ _) rfl ⟨v6, rfl, ?_, ?_, by rw [← HK.out]; exact HB6.out⟩
  · have := H6.out
    unfold sealM
    rw [← HLE.out, ← HTE.out, ← HK.out, show bv (L ++ T) = bv L ++ bv T from List.map_append, List.length_append, HT.out.1]
    exact this
  · unfold sealM
    rw [← HLE.out, ← HTE.out]
    exact RY.out.append HT.out.2
end Go.Proofs.YtgabjmmmiogfjaaDoor
