/-
  mac.half, mac.Tag.
-/
import Derived.Test.YtpljjmdkagbjpaaDoorMacM
import Derived.Laws.CopyOwn
namespace Go.Proofs.YtpljjmdkagbjpaaDoor
open Go.RowKit

/-- A sum's first half. -/
def halfL (d : List Int) : List Int := d.take 16
theorem halfL_len {d : List Int} (h : d.length = 32) : (halfL d).length = 16 := by simp [halfL, h]
theorem info50 : (Tryd.prog.info? 27).map (·.size) = some 16 := by kernel_rfl
theorem cells50 {l : List Int} (h : l.length = 16) : (Tryd.prog.info? 27).map (·.size) = some (kv .u8 l).toArray.size := by rw [info50, kv_size, h]
abbrev z50 : Obj := .cells (kv .u8 (fill 16 [])).toArray 27
theorem size50 {l : List Int} (h : l.length = 16) : (kv .u8 (fill 16 [])).toArray.size = (kv .u8 l).toArray.size := by rw [kv_size, kv_size, h]; rfl
set_option maxRecDepth 100000 in
theorem slice50_all (b : Nat) (w : World) : (Instr.sliceAt 27 (.pointer (some ⟨b, 0, none⟩)) none none none).run Tryd.prog w = .ok (.slice (some ⟨b, 0, none⟩) 16 16) w := by
  have hl : Tryd.prog.arrayLen 27 = 16 := by kernel_rfl
  have he : Tryd.prog.elem 27 = 5 := by kernel_rfl
  rw [run_sliceAt_array_all (ht := Tryd.underlying27), hl, he, size5]
  rfl
theorem splice_half {d : List Int} (h : d.length = 32) : splice (kv .u8 (fill 16 [])) 0 (kv .u8 (halfL d)) = kv .u8 (halfL d) := by
  unfold splice halfL
  rw [List.take_zero, List.nil_append, List.drop_eq_nil_of_le (by simp [fill, h]), List.append_nil]
set_option maxRecDepth 100000 in
set_option maxHeartbeats 1000000 in
theorem half_any (d : List Int) (w : World) (hd : d.length = 32) :
    Calls Tryd.prog 69 #[.agg (kv .u8 d).toArray] w fun r w' => r = .returned (.agg (kv .u8 (halfL d)).toArray) ∧ Below w.heap.size w w' := by
  have HD := Kp.mk hd
  have HH := Kp.mk (halfL_len hd)
  have HC := Kp.mk (cells50 (halfL_len hd))
  have HZ := Kp.mk (size50 (halfL_len hd))
  have HS := Kp.mk (splice_half hd)
  have HE : Kp (∀ j u, (kv .u8 (halfL d))[j]? = some u → (kv .u8 d)[j]? = some u) := ⟨fun j u h => by
    unfold halfL at h
    rw [← kv_take, List.getElem?_take] at h
    split at h
    · exact h
    · cases h⟩
  clear hd
  go_enter Tryd.func69, Tryd.ntmps69
  go_wp2_with fail
  obtain ⟨A, hA⟩ : ∃ A, A = w.heap.size := ⟨_, rfl⟩
  have HA := Kp.mk hA
  rw [← hA]
  refine wp_world (fun W => Row W A 95 .u8 d ∧ Row W (A + 1) 27 .u8 (fill 16 []) ∧ Row W (A + 2) 27 .u8 (fill 16 []) ∧ Below A w W) ⟨Row.alloc (Row.alloc (Blk.newAt _ hA) z50) z50, Row.alloc (Blk.newAt z50 (by rw [hA]; simp)) z50, Blk.newAt z50 (by rw [hA]; simp), by rw [hA]; exact more (more (more (Below.refl _ _) _) z50) z50⟩ ?_
  rintro W ⟨h1, h2, h3, h4⟩
  have H1 := Kp.mk h1
  have H2 := Kp.mk h2
  have H3 := Kp.mk h3
  have H4 := Kp.mk h4
  have hs := slice25_all
  have hs2 := slice50_all
  clear h1 h2 h3 h4 hA
  refine wp_region_any (by kernel_rfl) ?_
  change wpAny _ _ _ _ _ _ _ (World.drew _)
  refine wpAny_take (i := 0) (v := .slice (some ⟨A + 2, 0, none⟩) 16 16) rfl (by kernel_rfl) (by kernel_rfl) (by kernel_rfl) (fun _ _ _ h => h) (Or.inl ⟨by rfl, ?_⟩) ?_
  · intro w
    go_simp
  refine wpAny_take (i := 1) (v := .slice (some ⟨A, 0, none⟩) 32 32) rfl (by kernel_rfl) (by kernel_rfl) (by kernel_rfl) (fun _ _ _ h => h) (Or.inl ⟨by rfl, ?_⟩) ?_
  · intro w
    go_simp
  refine wpAny_ready (rs := [2]) (by kernel_rfl) (by simp) ?_
  refine AllReady.cons (o := { dst := some 6, op := Op.call { callee := Callee.builtin Builtin.copy, args := #[Operand.tmp 4, Operand.tmp 5], argTypes := #[32, 32] }, type := 3, pos := "mac.go:84", after := #[{ on := 0, ground := Ground.data }, { on := 1, ground := Ground.data }], guard := none }) rfl (fun K hK => ?_) AllReady.nil
  refine step_copy_splice rfl (.tmp 4) (.tmp 5) 32 32 rfl 5 Tryd.underlying32 (by kernel_rfl) (some ⟨A + 2, 0, none⟩) (some ⟨A, 0, none⟩) 16 16 32 32 rfl rfl (A + 2) 0 (kv .u8 (fill 16 [])) 27 H3.out.drew (kv .u8 (halfL d)) (by rw [List.length_map, HH.out]; rfl) (fun _ => ⟨rfl, _, rfl, fun j u hu => ?_⟩) (by rw [List.length_map, List.length_map, HH.out, fill_len (by simp)]; omega) (kv_one _) (A + 2) W.drew (Below.refl _ _) (Nat.le_refl _) ?_
  · have h := HE.out j u hu
    have hr := Blk.cell H1.out.drew j
    rw [List.getElem?_toArray, h] at hr
    have e : (⟨A, 0, none⟩ : Addr).add j = ⟨A, j, none⟩ := by unfold Addr.add; split <;> simp_all
    rw [e]
    exact hr
  intro w4 hg4 hb4
  refine hK _ _ ?_
  clear hK K
  refine wpAny_done (by kernel_rfl) ?_ _
  have G1 : Kp (Row w4 (A + 2) 27 .u8 (halfL d)) := ⟨by have h := hg4.out; rw [HS.out] at h; exact h⟩
  have G2 : Kp (Row w4 (A + 1) 27 .u8 (fill 16 [])) := ⟨H2.out.drew.upto hb4 (by omega)⟩
  have G3 : Kp (Below A w w4) := ⟨H4.out.trans ((below_drew2 hb4).mono (by omega))⟩
  have HF := Kp.mk (G2.out.setRow (halfL d))
  have HBf := Kp.mk (Below.row G3.out (g := A + 1) (by omega) (kv .u8 (halfL d)).toArray)
  clear hg4 hb4 hs hs2
  go_wp2_with (first
    | (refine wpList_load_row rfl 27 (.tmp 3) rfl (A + 2) rfl 27 (kv .u8 (halfL d)).toArray (0, 0) _ G1.out Tryd.underlying27 rfl HC.out ?_)
    | (refine wpList_store_row rfl 27 (.tmp 2) (.tmp 7) rfl (A + 1) (kv .u8 (halfL d)).toArray rfl rfl 27 _ G2.out HC.out HZ.out (kv_all _ _) ?_))
  refine bodyPost_ret (v := .agg (kv .u8 (halfL d)).toArray) ?_ rfl ⟨rfl, by rw [← HA.out]; exact HBf.out⟩
  exact results_cell_row rfl _ _ (A + 1) 27 _ (0, 0) _ rfl HF.out Tryd.underlying27 rfl HC.out
end Go.Proofs.YtpljjmdkagbjpaaDoor
