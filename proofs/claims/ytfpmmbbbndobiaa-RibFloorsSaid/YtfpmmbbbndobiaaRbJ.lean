/-
  Offer, where there is no floor: each way.
-/
import Derived.Test.YtfpmmbbbndobiaaRbI
namespace Go.Proofs.Ytfpmmbbbndobiaa
open Go.RowKit

theorem ofOk_parts {T : TB} {now : Int} {d f : Nat} {x : KV} (hxd : x.d = d) (hv : ofOk T now f x = true) : d < 8 ∧ f < 8 ∧ (ndB x.d && x.d != T.self) = true ∧ (ndB f && (f : Int) != T.self) = true ∧ krB x.k = true ∧ tmB now = true := by
  unfold ofOk at hv
  simp only [Bool.and_eq_true] at hv
  obtain ⟨⟨h1, h2⟩, ⟨h3, h4⟩, h5, h6⟩ := hv
  refine ⟨?_, ?_, by rw [h1, h2]; rfl, by rw [h3, h4]; rfl, h5, h6⟩
  · rw [hxd] at h1
    simp [ndB] at h1
    omega
  · simp [ndB] at h3
    omega
set_option maxRecDepth 100000 in
set_option maxHeartbeats 6400000 in
theorem offer_old (T : TB) (now : Int) (d f : Nat) (x : KV) (fl : K3) (t : Nat) (w : World) (h : Blk w t T.obj) (hxd : x.d = d) (hv : ofOk T now f x = true) (hwy : T.Ways) (hpa : x.pa = none ∧ x.pn = 0 ∧ x.pc = 0) (hst : (T.off (d * 8 + f)).stands = true) (hcmp : 0 < cmpK (T.off (d * 8 + f)).kn.k x.k) : Calls Try.prog 14 #[.pointer (some ⟨t, 0, none⟩), .int .i64 now, .int .i64 f, .agg (knc x).toArray, keyV fl, .bool false] w (OfPost 0 27 T t w) := by
  obtain ⟨hd, hf, b1, b2, b3, b4⟩ := ofOk_parts hxd hv
  have hA := fun (w : World) => box_row (t := 51) (cs := knc x) (info51s x) w
  obtain ⟨A, hAe⟩ : ∃ A, A = w.heap.size := ⟨_, rfl⟩
  obtain ⟨F, hFe⟩ : ∃ F, F = A + 1 := ⟨_, rfl⟩
  obtain ⟨W, hW⟩ : ∃ W, W = (w.alloc x.obj).alloc (.cells (kc fl).toArray 47) := ⟨_, rfl⟩
  have H0 : Kp (OF T t x fl A F w W) := ⟨by
    have := h.lt
    rw [hW]
    exact ⟨((Turn.same h).alloc _).alloc _, (Blk.newAt _ hAe).old _, Blk.newAt _ (by rw [hFe, hAe]; simp), by omega, by omega⟩⟩
  have HE := Kp.mk (And.intro hAe hFe)
  have HW := Kp.mk hW
  obtain ⟨fe, fs, fm⟩ := fl
  have H1 := fun W h1 => other_any T t x.d W h1
  have H2 := fun W h1 => other_any T t f W h1
  have H3 := fun W => kright_any x.k W
  have H4 := fun W => time_any now W
  rw [b1] at H1
  rw [b2] at H2
  rw [b3] at H3
  rw [b4] at H4
  have HD8 := Kp.mk hd
  have HF8 := Kp.mk hf
  have HXD := Kp.mk hxd
  have HWY := Kp.mk hwy
  have HPA := Kp.mk hpa
  have hd' : (d : Int) < 8 := by omega
  have hf' : (f : Int) < 8 := by omega
  obtain ⟨o, ho⟩ : ∃ o, o = T.off (d * 8 + f) := ⟨_, rfl⟩
  have HO := Kp.mk ho
  have HOC : Kp (∀ wx, Blk wx t T.obj → wx.cell? ⟨t, 3 + d * 216 + f * 27, none⟩ = some (.bool o.stands) ∧ wx.cell? ⟨t, 3 + d * 216 + f * 27 + 1, none⟩ = some (.int .i64 o.told) ∧ wx.cell? ⟨t, 3 + d * 216 + f * 27 + 23, none⟩ = some (.int .i64 o.until_)) := ⟨fun wx hx => ⟨off_cell (j := 0) hx hd hf (by rw [ho]; rfl), off_cell (j := 1) hx hd hf (by rw [ho]; rfl), off_cell (j := 23) hx hd hf (by rw [ho]; rfl)⟩⟩
  have HOK : Kp (∀ wx, Blk wx t T.obj → wx.rangeAt t (3 + d * 216 + f * 27 + 3) (kc o.kn.k)) := ⟨fun wx hx => by rw [ho]; exact off_key hx hd hf⟩
  have HOL : Kp (∀ wx, Blk wx t T.obj → wx.rangeAt t (3 + d * 216 + f * 27 + 24) (kc o.last)) := ⟨fun wx hx => by rw [ho]; exact off_last hx hd hf⟩
  rw [← ho] at hst hcmp
  rw [hst] at HOC
  obtain ⟨X, hX⟩ : ∃ X, X = cmpK o.kn.k x.k := ⟨_, rfl⟩
  have HC := fun wx => compare_any o.kn.k x.k wx
  rw [← hX] at HC hcmp
  clear hX
  have hdec : decide (0 < X) = true := by simp; omega
  clear hW hAe hFe h hd hf hxd hv hwy hpa b1 b2 b3 b4 ho hst hcmp
  go_enter Try.func14, Try.ntmps14
  go_upto_region 1 with (refine wpList_box_eq rfl 51 (.tmp 3) rfl _ rfl _ _ (hA _) ?_)
  rw [← HW.out, ← HE.out.1, ← HE.out.2]
  clear hA HW
  obtain ⟨c0, c1, c2, c3⟩ := H0.out.at
  go_wp2_with fail
  refine (H1 _ H0.out.tt.blk).mono ?_
  rintro r w1 ⟨rfl, rfl⟩
  go_wp2_with fail
  refine (H2 _ H0.out.tt.blk).mono ?_
  rintro r w1 ⟨rfl, rfl⟩
  go_wp2_with fail
  refine (H3 _).mono ?_
  rintro r w3 ⟨rfl, hb⟩
  have K3 := Kp.mk (H0.out.keep hb)
  clear hb H0 c0 c1 c2 c3 H1 H2 H3
  go_wp2_with fail
  refine (H4 _).mono ?_
  rintro r w4 ⟨rfl, rfl⟩
  clear H4
  go_wp2_with fail
  refine wp_region_flow (fun w' => OF T t x ⟨fe, fs, fm⟩ A F w w') (by kernel_rfl) (by kernel_rfl) (by kernel_rfl)
    (fun _ _ h hb => h.keep hb) (K3.out.drew) ?_
  repeat (first
    | (apply Flow.value
       · rfl
       · (intro wx hS; obtain ⟨c0, c1, c2, c3⟩ := hS.at; rw [HXD.out] at c0; obtain ⟨p0, p1, p23⟩ := HOC.out _ hS.tt.blk; go_simp; with_reducible rfl)
       try simp only [Act.put, List.setIfInBounds_toArray, List.set_cons_zero, List.set_cons_succ]))
  refine Flow.done ?_
  intro w5 hS
  have K5 := Kp.mk hS
  clear hS K3
  go_wp2_with fail
  refine wp_region_flow (fun w' => OF T t x ⟨fe, fs, fm⟩ A F w w') (by kernel_rfl) (by kernel_rfl) (by kernel_rfl)
    (fun _ _ h hb => h.keep hb) (K5.out.drew) ?_
  repeat (first
    | (apply Flow.idle
       · rfl
       try simp only [Act.put, List.setIfInBounds_toArray, List.set_cons_zero, List.set_cons_succ])
    | (apply Flow.value
       · rfl
       · (intro wx hS; exact exec_load_mid (cs := kc o.kn.k) rfl rfl (HOK.out _ hS.tt.blk) Try.underlying47 rfl (by kernel_rfl))
       try simp only [Act.put, List.setIfInBounds_toArray, List.set_cons_zero, List.set_cons_succ])
    | (apply Flow.value
       · rfl
       · (intro wx hS; exact exec_load_mid (cs := kc x.k) rfl rfl (Blk.range (cs := knc x) (o := 1) hS.a rfl) Try.underlying47 rfl (by kernel_rfl))
       try simp only [Act.put, List.setIfInBounds_toArray, List.set_cons_zero, List.set_cons_succ])
    | (apply Flow.call
       · rfl
       · intro wx hS; go_simp; constructor <;> with_reducible rfl
       · intro wx hS; exact HC wx
       try simp only [Act.put, List.setIfInBounds_toArray, List.set_cons_zero, List.set_cons_succ])
    | (apply Flow.value
       · rfl
       · (intro wx hS; obtain ⟨c0, c1, c2, c3⟩ := hS.at; rw [HXD.out] at c0; obtain ⟨p0, p1, p23⟩ := HOC.out _ hS.tt.blk; go_simp; with_reducible rfl)
       try simp only [Act.put, List.setIfInBounds_toArray, List.set_cons_zero, List.set_cons_succ]))
  refine Flow.done ?_
  intro w6 hS
  have K6 := Kp.mk hS
  clear hS K5 HC hdec
  go_wp2_with fail
  go_ret2
  exact ⟨rfl, K6.out.tt⟩
set_option maxRecDepth 100000 in
set_option maxHeartbeats 6400000 in
theorem offer_hold0 (T : TB) (now : Int) (d f : Nat) (x : KV) (fl : K3) (t : Nat) (w : World) (h : Blk w t T.obj) (hxd : x.d = d) (hv : ofOk T now f x = true) (hwy : T.Ways) (hpa : x.pa = none ∧ x.pn = 0 ∧ x.pc = 0) (hst : (T.off (d * 8 + f)).stands = false) (hlt : now < (T.off (d * 8 + f)).until_) (hnw : nwB x.k (T.off (d * 8 + f)).last = false) : Calls Try.prog 14 #[.pointer (some ⟨t, 0, none⟩), .int .i64 now, .int .i64 f, .agg (knc x).toArray, keyV fl, .bool false] w (OfPost 0 28 T t w) := by
  obtain ⟨hd, hf, b1, b2, b3, b4⟩ := ofOk_parts hxd hv
  have hA := fun (w : World) => box_row (t := 51) (cs := knc x) (info51s x) w
  obtain ⟨A, hAe⟩ : ∃ A, A = w.heap.size := ⟨_, rfl⟩
  obtain ⟨F, hFe⟩ : ∃ F, F = A + 1 := ⟨_, rfl⟩
  obtain ⟨W, hW⟩ : ∃ W, W = (w.alloc x.obj).alloc (.cells (kc fl).toArray 47) := ⟨_, rfl⟩
  have H0 : Kp (OF T t x fl A F w W) := ⟨by
    have := h.lt
    rw [hW]
    exact ⟨((Turn.same h).alloc _).alloc _, (Blk.newAt _ hAe).old _, Blk.newAt _ (by rw [hFe, hAe]; simp), by omega, by omega⟩⟩
  have HE := Kp.mk (And.intro hAe hFe)
  have HW := Kp.mk hW
  obtain ⟨fe, fs, fm⟩ := fl
  have H1 := fun W h1 => other_any T t x.d W h1
  have H2 := fun W h1 => other_any T t f W h1
  have H3 := fun W => kright_any x.k W
  have H4 := fun W => time_any now W
  rw [b1] at H1
  rw [b2] at H2
  rw [b3] at H3
  rw [b4] at H4
  have HD8 := Kp.mk hd
  have HF8 := Kp.mk hf
  have HXD := Kp.mk hxd
  have HWY := Kp.mk hwy
  have HPA := Kp.mk hpa
  have hd' : (d : Int) < 8 := by omega
  have hf' : (f : Int) < 8 := by omega
  obtain ⟨o, ho⟩ : ∃ o, o = T.off (d * 8 + f) := ⟨_, rfl⟩
  have HO := Kp.mk ho
  have HOC : Kp (∀ wx, Blk wx t T.obj → wx.cell? ⟨t, 3 + d * 216 + f * 27, none⟩ = some (.bool o.stands) ∧ wx.cell? ⟨t, 3 + d * 216 + f * 27 + 1, none⟩ = some (.int .i64 o.told) ∧ wx.cell? ⟨t, 3 + d * 216 + f * 27 + 23, none⟩ = some (.int .i64 o.until_)) := ⟨fun wx hx => ⟨off_cell (j := 0) hx hd hf (by rw [ho]; rfl), off_cell (j := 1) hx hd hf (by rw [ho]; rfl), off_cell (j := 23) hx hd hf (by rw [ho]; rfl)⟩⟩
  have HOK : Kp (∀ wx, Blk wx t T.obj → wx.rangeAt t (3 + d * 216 + f * 27 + 3) (kc o.kn.k)) := ⟨fun wx hx => by rw [ho]; exact off_key hx hd hf⟩
  have HOL : Kp (∀ wx, Blk wx t T.obj → wx.rangeAt t (3 + d * 216 + f * 27 + 24) (kc o.last)) := ⟨fun wx hx => by rw [ho]; exact off_last hx hd hf⟩
  rw [← ho] at hst hlt hnw
  rw [hst] at HOC
  have hdl : decide (now < o.until_) = true := by simp; omega
  have HNW := fun wx => newer_any x.k o.last wx
  rw [hnw] at HNW
  clear hW hAe hFe h hd hf hxd hv hwy hpa b1 b2 b3 b4 ho hst hlt hnw
  go_enter Try.func14, Try.ntmps14
  go_upto_region 1 with (refine wpList_box_eq rfl 51 (.tmp 3) rfl _ rfl _ _ (hA _) ?_)
  rw [← HW.out, ← HE.out.1, ← HE.out.2]
  clear hA HW
  obtain ⟨c0, c1, c2, c3⟩ := H0.out.at
  go_wp2_with fail
  refine (H1 _ H0.out.tt.blk).mono ?_
  rintro r w1 ⟨rfl, rfl⟩
  go_wp2_with fail
  refine (H2 _ H0.out.tt.blk).mono ?_
  rintro r w1 ⟨rfl, rfl⟩
  go_wp2_with fail
  refine (H3 _).mono ?_
  rintro r w3 ⟨rfl, hb⟩
  have K3 := Kp.mk (H0.out.keep hb)
  clear hb H0 c0 c1 c2 c3 H1 H2 H3
  go_wp2_with fail
  refine (H4 _).mono ?_
  rintro r w4 ⟨rfl, rfl⟩
  clear H4
  go_wp2_with fail
  refine wp_region_flow (fun w' => OF T t x ⟨fe, fs, fm⟩ A F w w') (by kernel_rfl) (by kernel_rfl) (by kernel_rfl)
    (fun _ _ h hb => h.keep hb) (K3.out.drew) ?_
  repeat (first
    | (apply Flow.value
       · rfl
       · (intro wx hS; obtain ⟨c0, c1, c2, c3⟩ := hS.at; rw [HXD.out] at c0; obtain ⟨p0, p1, p23⟩ := HOC.out _ hS.tt.blk; go_simp; with_reducible rfl)
       try simp only [Act.put, List.setIfInBounds_toArray, List.set_cons_zero, List.set_cons_succ]))
  refine Flow.done ?_
  intro w5 hS
  have K5 := Kp.mk hS
  clear hS K3
  go_wp2_with fail
  refine wp_region_flow (fun w' => OF T t x ⟨fe, fs, fm⟩ A F w w') (by kernel_rfl) (by kernel_rfl) (by kernel_rfl)
    (fun _ _ h hb => h.keep hb) (K5.out.drew) ?_
  repeat (first
    | (apply Flow.idle
       · rfl
       try simp only [Act.put, List.setIfInBounds_toArray, List.set_cons_zero, List.set_cons_succ])
    | (apply Flow.value
       · rfl
       · (intro wx hS; exact exec_load_mid (cs := kc o.kn.k) rfl rfl (HOK.out _ hS.tt.blk) Try.underlying47 rfl (by kernel_rfl))
       try simp only [Act.put, List.setIfInBounds_toArray, List.set_cons_zero, List.set_cons_succ])
    | (apply Flow.value
       · rfl
       · (intro wx hS; exact exec_load_mid (cs := kc x.k) rfl rfl (Blk.range (cs := knc x) (o := 1) hS.a rfl) Try.underlying47 rfl (by kernel_rfl))
       try simp only [Act.put, List.setIfInBounds_toArray, List.set_cons_zero, List.set_cons_succ])
    | (apply Flow.value
       · rfl
       · (intro wx hS; obtain ⟨c0, c1, c2, c3⟩ := hS.at; rw [HXD.out] at c0; obtain ⟨p0, p1, p23⟩ := HOC.out _ hS.tt.blk; go_simp; with_reducible rfl)
       try simp only [Act.put, List.setIfInBounds_toArray, List.set_cons_zero, List.set_cons_succ]))
  refine Flow.done ?_
  intro w6 hS
  have K6 := Kp.mk hS
  clear hS K5
  go_wp2_with fail
  refine wp_region_flow (fun w' => OF T t x ⟨fe, fs, fm⟩ A F w w') (by kernel_rfl) (by kernel_rfl) (by kernel_rfl)
    (fun _ _ h hb => h.keep hb) (K6.out.drew) ?_
  repeat (first
    | (apply Flow.idle
       · rfl
       try simp only [Act.put, List.setIfInBounds_toArray, List.set_cons_zero, List.set_cons_succ])
    | (apply Flow.value
       · rfl
       · (intro wx hS; exact exec_load_mid (cs := kc o.last) rfl rfl (HOL.out _ hS.tt.blk) Try.underlying47 rfl (by kernel_rfl))
       try simp only [Act.put, List.setIfInBounds_toArray, List.set_cons_zero, List.set_cons_succ])
    | (apply Flow.value
       · rfl
       · (intro wx hS; exact exec_load_mid (cs := kc x.k) rfl rfl (Blk.range (cs := knc x) (o := 1) hS.a rfl) Try.underlying47 rfl (by kernel_rfl))
       try simp only [Act.put, List.setIfInBounds_toArray, List.set_cons_zero, List.set_cons_succ])
    | (apply Flow.call
       · rfl
       · intro wx hS; go_simp; constructor <;> with_reducible rfl
       · intro wx hS; exact HNW wx
       try simp only [Act.put, List.setIfInBounds_toArray, List.set_cons_zero, List.set_cons_succ])
    | (apply Flow.value
       · rfl
       · (intro wx hS; obtain ⟨c0, c1, c2, c3⟩ := hS.at; rw [HXD.out] at c0; obtain ⟨p0, p1, p23⟩ := HOC.out _ hS.tt.blk; go_simp; with_reducible rfl)
       try simp only [Act.put, List.setIfInBounds_toArray, List.set_cons_zero, List.set_cons_succ]))
  refine Flow.done ?_
  intro w8 hS
  have K8 := Kp.mk hS
  clear hS K6 hdl HNW
  go_wp2_with fail
  go_ret2
  exact ⟨rfl, K8.out.tt⟩
set_option maxRecDepth 100000 in
set_option maxHeartbeats 6400000 in
theorem offer_hold1 (T : TB) (now : Int) (d f : Nat) (x : KV) (fl : K3) (t : Nat) (w : World) (h : Blk w t T.obj) (hxd : x.d = d) (hv : ofOk T now f x = true) (hwy : T.Ways) (hpa : x.pa = none ∧ x.pn = 0 ∧ x.pc = 0) (hst : (T.off (d * 8 + f)).stands = true) (hcmp : cmpK (T.off (d * 8 + f)).kn.k x.k ≤ 0) (hlt : now < (T.off (d * 8 + f)).until_) (hnw : nwB x.k (T.off (d * 8 + f)).last = false) : Calls Try.prog 14 #[.pointer (some ⟨t, 0, none⟩), .int .i64 now, .int .i64 f, .agg (knc x).toArray, keyV fl, .bool false] w (OfPost 0 28 T t w) := by
  obtain ⟨hd, hf, b1, b2, b3, b4⟩ := ofOk_parts hxd hv
  have hA := fun (w : World) => box_row (t := 51) (cs := knc x) (info51s x) w
  obtain ⟨A, hAe⟩ : ∃ A, A = w.heap.size := ⟨_, rfl⟩
  obtain ⟨F, hFe⟩ : ∃ F, F = A + 1 := ⟨_, rfl⟩
  obtain ⟨W, hW⟩ : ∃ W, W = (w.alloc x.obj).alloc (.cells (kc fl).toArray 47) := ⟨_, rfl⟩
  have H0 : Kp (OF T t x fl A F w W) := ⟨by
    have := h.lt
    rw [hW]
    exact ⟨((Turn.same h).alloc _).alloc _, (Blk.newAt _ hAe).old _, Blk.newAt _ (by rw [hFe, hAe]; simp), by omega, by omega⟩⟩
  have HE := Kp.mk (And.intro hAe hFe)
  have HW := Kp.mk hW
  obtain ⟨fe, fs, fm⟩ := fl
  have H1 := fun W h1 => other_any T t x.d W h1
  have H2 := fun W h1 => other_any T t f W h1
  have H3 := fun W => kright_any x.k W
  have H4 := fun W => time_any now W
  rw [b1] at H1
  rw [b2] at H2
  rw [b3] at H3
  rw [b4] at H4
  have HD8 := Kp.mk hd
  have HF8 := Kp.mk hf
  have HXD := Kp.mk hxd
  have HWY := Kp.mk hwy
  have HPA := Kp.mk hpa
  have hd' : (d : Int) < 8 := by omega
  have hf' : (f : Int) < 8 := by omega
  obtain ⟨o, ho⟩ : ∃ o, o = T.off (d * 8 + f) := ⟨_, rfl⟩
  have HO := Kp.mk ho
  have HOC : Kp (∀ wx, Blk wx t T.obj → wx.cell? ⟨t, 3 + d * 216 + f * 27, none⟩ = some (.bool o.stands) ∧ wx.cell? ⟨t, 3 + d * 216 + f * 27 + 1, none⟩ = some (.int .i64 o.told) ∧ wx.cell? ⟨t, 3 + d * 216 + f * 27 + 23, none⟩ = some (.int .i64 o.until_)) := ⟨fun wx hx => ⟨off_cell (j := 0) hx hd hf (by rw [ho]; rfl), off_cell (j := 1) hx hd hf (by rw [ho]; rfl), off_cell (j := 23) hx hd hf (by rw [ho]; rfl)⟩⟩
  have HOK : Kp (∀ wx, Blk wx t T.obj → wx.rangeAt t (3 + d * 216 + f * 27 + 3) (kc o.kn.k)) := ⟨fun wx hx => by rw [ho]; exact off_key hx hd hf⟩
  have HOL : Kp (∀ wx, Blk wx t T.obj → wx.rangeAt t (3 + d * 216 + f * 27 + 24) (kc o.last)) := ⟨fun wx hx => by rw [ho]; exact off_last hx hd hf⟩
  rw [← ho] at hst hcmp hlt hnw
  rw [hst] at HOC
  obtain ⟨X, hX⟩ : ∃ X, X = cmpK o.kn.k x.k := ⟨_, rfl⟩
  have HC := fun wx => compare_any o.kn.k x.k wx
  rw [← hX] at HC hcmp
  clear hX
  have hdec : decide (0 < X) = false := by simp; omega
  have hdl : decide (now < o.until_) = true := by simp; omega
  have HNW := fun wx => newer_any x.k o.last wx
  rw [hnw] at HNW
  clear hW hAe hFe h hd hf hxd hv hwy hpa b1 b2 b3 b4 ho hst hcmp hlt hnw
  go_enter Try.func14, Try.ntmps14
  go_upto_region 1 with (refine wpList_box_eq rfl 51 (.tmp 3) rfl _ rfl _ _ (hA _) ?_)
  rw [← HW.out, ← HE.out.1, ← HE.out.2]
  clear hA HW
  obtain ⟨c0, c1, c2, c3⟩ := H0.out.at
  go_wp2_with fail
  refine (H1 _ H0.out.tt.blk).mono ?_
  rintro r w1 ⟨rfl, rfl⟩
  go_wp2_with fail
  refine (H2 _ H0.out.tt.blk).mono ?_
  rintro r w1 ⟨rfl, rfl⟩
  go_wp2_with fail
  refine (H3 _).mono ?_
  rintro r w3 ⟨rfl, hb⟩
  have K3 := Kp.mk (H0.out.keep hb)
  clear hb H0 c0 c1 c2 c3 H1 H2 H3
  go_wp2_with fail
  refine (H4 _).mono ?_
  rintro r w4 ⟨rfl, rfl⟩
  clear H4
  go_wp2_with fail
  refine wp_region_flow (fun w' => OF T t x ⟨fe, fs, fm⟩ A F w w') (by kernel_rfl) (by kernel_rfl) (by kernel_rfl)
    (fun _ _ h hb => h.keep hb) (K3.out.drew) ?_
  repeat (first
    | (apply Flow.value
       · rfl
       · (intro wx hS; obtain ⟨c0, c1, c2, c3⟩ := hS.at; rw [HXD.out] at c0; obtain ⟨p0, p1, p23⟩ := HOC.out _ hS.tt.blk; go_simp; with_reducible rfl)
       try simp only [Act.put, List.setIfInBounds_toArray, List.set_cons_zero, List.set_cons_succ]))
  refine Flow.done ?_
  intro w5 hS
  have K5 := Kp.mk hS
  clear hS K3
  go_wp2_with fail
  refine wp_region_flow (fun w' => OF T t x ⟨fe, fs, fm⟩ A F w w') (by kernel_rfl) (by kernel_rfl) (by kernel_rfl)
    (fun _ _ h hb => h.keep hb) (K5.out.drew) ?_
  repeat (first
    | (apply Flow.idle
       · rfl
       try simp only [Act.put, List.setIfInBounds_toArray, List.set_cons_zero, List.set_cons_succ])
    | (apply Flow.value
       · rfl
       · (intro wx hS; exact exec_load_mid (cs := kc o.kn.k) rfl rfl (HOK.out _ hS.tt.blk) Try.underlying47 rfl (by kernel_rfl))
       try simp only [Act.put, List.setIfInBounds_toArray, List.set_cons_zero, List.set_cons_succ])
    | (apply Flow.value
       · rfl
       · (intro wx hS; exact exec_load_mid (cs := kc x.k) rfl rfl (Blk.range (cs := knc x) (o := 1) hS.a rfl) Try.underlying47 rfl (by kernel_rfl))
       try simp only [Act.put, List.setIfInBounds_toArray, List.set_cons_zero, List.set_cons_succ])
    | (apply Flow.call
       · rfl
       · intro wx hS; go_simp; constructor <;> with_reducible rfl
       · intro wx hS; exact HC wx
       try simp only [Act.put, List.setIfInBounds_toArray, List.set_cons_zero, List.set_cons_succ])
    | (apply Flow.value
       · rfl
       · (intro wx hS; obtain ⟨c0, c1, c2, c3⟩ := hS.at; rw [HXD.out] at c0; obtain ⟨p0, p1, p23⟩ := HOC.out _ hS.tt.blk; go_simp; with_reducible rfl)
       try simp only [Act.put, List.setIfInBounds_toArray, List.set_cons_zero, List.set_cons_succ]))
  refine Flow.done ?_
  intro w6 hS
  have K6 := Kp.mk hS
  clear hS K5 HC hdec
  go_wp2_with fail
  refine wp_region_flow (fun w' => OF T t x ⟨fe, fs, fm⟩ A F w w') (by kernel_rfl) (by kernel_rfl) (by kernel_rfl)
    (fun _ _ h hb => h.keep hb) (K6.out.drew) ?_
  repeat (first
    | (apply Flow.idle
       · rfl
       try simp only [Act.put, List.setIfInBounds_toArray, List.set_cons_zero, List.set_cons_succ])
    | (apply Flow.value
       · rfl
       · (intro wx hS; exact exec_load_mid (cs := kc o.last) rfl rfl (HOL.out _ hS.tt.blk) Try.underlying47 rfl (by kernel_rfl))
       try simp only [Act.put, List.setIfInBounds_toArray, List.set_cons_zero, List.set_cons_succ])
    | (apply Flow.value
       · rfl
       · (intro wx hS; exact exec_load_mid (cs := kc x.k) rfl rfl (Blk.range (cs := knc x) (o := 1) hS.a rfl) Try.underlying47 rfl (by kernel_rfl))
       try simp only [Act.put, List.setIfInBounds_toArray, List.set_cons_zero, List.set_cons_succ])
    | (apply Flow.call
       · rfl
       · intro wx hS; go_simp; constructor <;> with_reducible rfl
       · intro wx hS; exact HNW wx
       try simp only [Act.put, List.setIfInBounds_toArray, List.set_cons_zero, List.set_cons_succ])
    | (apply Flow.value
       · rfl
       · (intro wx hS; obtain ⟨c0, c1, c2, c3⟩ := hS.at; rw [HXD.out] at c0; obtain ⟨p0, p1, p23⟩ := HOC.out _ hS.tt.blk; go_simp; with_reducible rfl)
       try simp only [Act.put, List.setIfInBounds_toArray, List.set_cons_zero, List.set_cons_succ]))
  refine Flow.done ?_
  intro w8 hS
  have K8 := Kp.mk hS
  clear hS K6 hdl HNW
  go_wp2_with fail
  go_ret2
  exact ⟨rfl, K8.out.tt⟩
set_option maxRecDepth 100000 in
set_option maxHeartbeats 6400000 in
theorem offer_fresh0 (T : TB) (now : Int) (d f : Nat) (x : KV) (fl : K3) (t : Nat) (w : World) (h : Blk w t T.obj) (hxd : x.d = d) (hv : ofOk T now f x = true) (hwy : T.Ways) (hpa : x.pa = none ∧ x.pn = 0 ∧ x.pc = 0) (hst : (T.off (d * 8 + f)).stands = true) (hcmp : cmpK (T.off (d * 8 + f)).kn.k x.k ≤ 0) (hlt : (T.off (d * 8 + f)).until_ ≤ now) (hky : (T.off (d * 8 + f)).kn.k = x.k) : Calls Try.prog 14 #[.pointer (some ⟨t, 0, none⟩), .int .i64 now, .int .i64 f, .agg (knc x).toArray, keyV fl, .bool false] w (OfPost 2 0 (T.putO (d * 8 + f) { T.off (d * 8 + f) with told := now }) t w) := by
  obtain ⟨hd, hf, b1, b2, b3, b4⟩ := ofOk_parts hxd hv
  have hA := fun (w : World) => box_row (t := 51) (cs := knc x) (info51s x) w
  obtain ⟨A, hAe⟩ : ∃ A, A = w.heap.size := ⟨_, rfl⟩
  obtain ⟨F, hFe⟩ : ∃ F, F = A + 1 := ⟨_, rfl⟩
  obtain ⟨W, hW⟩ : ∃ W, W = (w.alloc x.obj).alloc (.cells (kc fl).toArray 47) := ⟨_, rfl⟩
  have H0 : Kp (OF T t x fl A F w W) := ⟨by
    have := h.lt
    rw [hW]
    exact ⟨((Turn.same h).alloc _).alloc _, (Blk.newAt _ hAe).old _, Blk.newAt _ (by rw [hFe, hAe]; simp), by omega, by omega⟩⟩
  have HE := Kp.mk (And.intro hAe hFe)
  have HW := Kp.mk hW
  obtain ⟨fe, fs, fm⟩ := fl
  have H1 := fun W h1 => other_any T t x.d W h1
  have H2 := fun W h1 => other_any T t f W h1
  have H3 := fun W => kright_any x.k W
  have H4 := fun W => time_any now W
  rw [b1] at H1
  rw [b2] at H2
  rw [b3] at H3
  rw [b4] at H4
  have HD8 := Kp.mk hd
  have HF8 := Kp.mk hf
  have HXD := Kp.mk hxd
  have HWY := Kp.mk hwy
  have HPA := Kp.mk hpa
  have hd' : (d : Int) < 8 := by omega
  have hf' : (f : Int) < 8 := by omega
  obtain ⟨o, ho⟩ : ∃ o, o = T.off (d * 8 + f) := ⟨_, rfl⟩
  have HO := Kp.mk ho
  have HOC : Kp (∀ wx, Blk wx t T.obj → wx.cell? ⟨t, 3 + d * 216 + f * 27, none⟩ = some (.bool o.stands) ∧ wx.cell? ⟨t, 3 + d * 216 + f * 27 + 1, none⟩ = some (.int .i64 o.told) ∧ wx.cell? ⟨t, 3 + d * 216 + f * 27 + 23, none⟩ = some (.int .i64 o.until_)) := ⟨fun wx hx => ⟨off_cell (j := 0) hx hd hf (by rw [ho]; rfl), off_cell (j := 1) hx hd hf (by rw [ho]; rfl), off_cell (j := 23) hx hd hf (by rw [ho]; rfl)⟩⟩
  have HOK : Kp (∀ wx, Blk wx t T.obj → wx.rangeAt t (3 + d * 216 + f * 27 + 3) (kc o.kn.k)) := ⟨fun wx hx => by rw [ho]; exact off_key hx hd hf⟩
  have HOL : Kp (∀ wx, Blk wx t T.obj → wx.rangeAt t (3 + d * 216 + f * 27 + 24) (kc o.last)) := ⟨fun wx hx => by rw [ho]; exact off_last hx hd hf⟩
  rw [← ho] at hst hcmp hlt hky
  rw [← ho]
  rw [hst] at HOC
  obtain ⟨X, hX⟩ : ∃ X, X = cmpK o.kn.k x.k := ⟨_, rfl⟩
  have HC := fun wx => compare_any o.kn.k x.k wx
  rw [← hX] at HC hcmp
  clear hX
  have hdec : decide (0 < X) = false := by simp; omega
  have hdl : decide (now < o.until_) = false := by simp; omega
  have HEQ : ∀ wx, (binOp .eql 47 (keyV o.kn.k) (keyV x.k)).run Try.prog wx = .ok (.bool true) wx := fun wx => by rw [eqlK, K3.beq]; simp [hky]
  clear hW hAe hFe h hd hf hxd hv hwy hpa b1 b2 b3 b4 ho hst hcmp hlt hky
  go_enter Try.func14, Try.ntmps14
  go_upto_region 1 with (refine wpList_box_eq rfl 51 (.tmp 3) rfl _ rfl _ _ (hA _) ?_)
  rw [← HW.out, ← HE.out.1, ← HE.out.2]
  clear hA HW
  obtain ⟨c0, c1, c2, c3⟩ := H0.out.at
  go_wp2_with fail
  refine (H1 _ H0.out.tt.blk).mono ?_
  rintro r w1 ⟨rfl, rfl⟩
  go_wp2_with fail
  refine (H2 _ H0.out.tt.blk).mono ?_
  rintro r w1 ⟨rfl, rfl⟩
  go_wp2_with fail
  refine (H3 _).mono ?_
  rintro r w3 ⟨rfl, hb⟩
  have K3 := Kp.mk (H0.out.keep hb)
  clear hb H0 c0 c1 c2 c3 H1 H2 H3
  go_wp2_with fail
  refine (H4 _).mono ?_
  rintro r w4 ⟨rfl, rfl⟩
  clear H4
  go_wp2_with fail
  refine wp_region_flow (fun w' => OF T t x ⟨fe, fs, fm⟩ A F w w') (by kernel_rfl) (by kernel_rfl) (by kernel_rfl)
    (fun _ _ h hb => h.keep hb) (K3.out.drew) ?_
  repeat (first
    | (apply Flow.value
       · rfl
       · (intro wx hS; obtain ⟨c0, c1, c2, c3⟩ := hS.at; rw [HXD.out] at c0; obtain ⟨p0, p1, p23⟩ := HOC.out _ hS.tt.blk; go_simp; with_reducible rfl)
       try simp only [Act.put, List.setIfInBounds_toArray, List.set_cons_zero, List.set_cons_succ]))
  refine Flow.done ?_
  intro w5 hS
  have K5 := Kp.mk hS
  clear hS K3
  go_wp2_with fail
  refine wp_region_flow (fun w' => OF T t x ⟨fe, fs, fm⟩ A F w w') (by kernel_rfl) (by kernel_rfl) (by kernel_rfl)
    (fun _ _ h hb => h.keep hb) (K5.out.drew) ?_
  repeat (first
    | (apply Flow.idle
       · rfl
       try simp only [Act.put, List.setIfInBounds_toArray, List.set_cons_zero, List.set_cons_succ])
    | (apply Flow.value
       · rfl
       · (intro wx hS; exact exec_load_mid (cs := kc o.kn.k) rfl rfl (HOK.out _ hS.tt.blk) Try.underlying47 rfl (by kernel_rfl))
       try simp only [Act.put, List.setIfInBounds_toArray, List.set_cons_zero, List.set_cons_succ])
    | (apply Flow.value
       · rfl
       · (intro wx hS; exact exec_load_mid (cs := kc x.k) rfl rfl (Blk.range (cs := knc x) (o := 1) hS.a rfl) Try.underlying47 rfl (by kernel_rfl))
       try simp only [Act.put, List.setIfInBounds_toArray, List.set_cons_zero, List.set_cons_succ])
    | (apply Flow.call
       · rfl
       · intro wx hS; go_simp; constructor <;> with_reducible rfl
       · intro wx hS; exact HC wx
       try simp only [Act.put, List.setIfInBounds_toArray, List.set_cons_zero, List.set_cons_succ])
    | (apply Flow.value
       · rfl
       · (intro wx hS; obtain ⟨c0, c1, c2, c3⟩ := hS.at; rw [HXD.out] at c0; obtain ⟨p0, p1, p23⟩ := HOC.out _ hS.tt.blk; go_simp; with_reducible rfl)
       try simp only [Act.put, List.setIfInBounds_toArray, List.set_cons_zero, List.set_cons_succ]))
  refine Flow.done ?_
  intro w6 hS
  have K6 := Kp.mk hS
  clear hS K5 HC hdec
  go_wp2_with fail
  refine wp_region_flow (fun w' => OF T t x ⟨fe, fs, fm⟩ A F w w') (by kernel_rfl) (by kernel_rfl) (by kernel_rfl)
    (fun _ _ h hb => h.keep hb) (K6.out.drew) ?_
  repeat (first
    | (apply Flow.idle
       · rfl
       try simp only [Act.put, List.setIfInBounds_toArray, List.set_cons_zero, List.set_cons_succ])
    | (apply Flow.value
       · rfl
       · (intro wx hS; exact exec_load_mid (cs := kc o.last) rfl rfl (HOL.out _ hS.tt.blk) Try.underlying47 rfl (by kernel_rfl))
       try simp only [Act.put, List.setIfInBounds_toArray, List.set_cons_zero, List.set_cons_succ])
    | (apply Flow.value
       · rfl
       · (intro wx hS; exact exec_load_mid (cs := kc x.k) rfl rfl (Blk.range (cs := knc x) (o := 1) hS.a rfl) Try.underlying47 rfl (by kernel_rfl))
       try simp only [Act.put, List.setIfInBounds_toArray, List.set_cons_zero, List.set_cons_succ])
    | (apply Flow.value
       · rfl
       · (intro wx hS; obtain ⟨c0, c1, c2, c3⟩ := hS.at; rw [HXD.out] at c0; obtain ⟨p0, p1, p23⟩ := HOC.out _ hS.tt.blk; go_simp; with_reducible rfl)
       try simp only [Act.put, List.setIfInBounds_toArray, List.set_cons_zero, List.set_cons_succ]))
  refine Flow.done ?_
  intro w8 hS
  have K8 := Kp.mk hS
  clear hS K6 hdl
  go_wp2_with fail
  refine wp_region_flow (fun w' => OF T t x ⟨fe, fs, fm⟩ A F w w') (by kernel_rfl) (by kernel_rfl) (by kernel_rfl)
    (fun _ _ h hb => h.keep hb) (K8.out.drew) ?_
  repeat (first
    | (apply Flow.idle
       · rfl
       try simp only [Act.put, List.setIfInBounds_toArray, List.set_cons_zero, List.set_cons_succ])
    | (apply Flow.value
       · rfl
       · (intro wx hS; exact exec_load_mid (cs := kc o.kn.k) rfl rfl (HOK.out _ hS.tt.blk) Try.underlying47 rfl (by kernel_rfl))
       try simp only [Act.put, List.setIfInBounds_toArray, List.set_cons_zero, List.set_cons_succ])
    | (apply Flow.value
       · rfl
       · (intro wx hS; exact exec_load_mid (cs := kc x.k) rfl rfl (Blk.range (cs := knc x) (o := 1) hS.a rfl) Try.underlying47 rfl (by kernel_rfl))
       try simp only [Act.put, List.setIfInBounds_toArray, List.set_cons_zero, List.set_cons_succ])
    | (apply Flow.value
       · rfl
       · (intro wx hS; obtain ⟨c0, c1, c2, c3⟩ := hS.at; rw [HXD.out] at c0; obtain ⟨p0, p1, p23⟩ := HOC.out _ hS.tt.blk; go_simp; with_reducible rfl)
       try simp only [Act.put, List.setIfInBounds_toArray, List.set_cons_zero, List.set_cons_succ]))
  refine Flow.done ?_
  intro w10 hS
  have K10 := Kp.mk hS
  clear hS K8 HEQ
  obtain ⟨p0, p1, p23⟩ := HOC.out _ K10.out.tt.blk
  have f1 := K10.out.tt.blk.frozen (3 + d * 216 + f * 27 + 1)
  have HFI : Kp (Turn t (T.putO (d * 8 + f) { o with told := now }).obj w (w10.setCell ⟨t, 3 + d * 216 + f * 27 + 1, none⟩ (.int .i64 now))) := ⟨by
    have := K10.out.tt.set (3 + d * 216 + f * 27 + 1) (.int .i64 now)
    rw [List.setIfInBounds_toArray, show 3 + d * 216 + f * 27 + 1 = 3 + (d * 8 + f) * 27 + 1 by omega, tc_setO T (k := d * 8 + f) (by have := HD8.out; have := HF8.out; omega) (by omega) (o := { o with told := now }) (by rw [← HO.out]; rfl)] at this
    rw [show 3 + d * 216 + f * 27 + 1 = 3 + (d * 8 + f) * 27 + 1 by omega]
    exact this⟩
  clear K10
  go_wp2_with fail
  go_ret2
  exact ⟨rfl, HFI.out⟩
set_option maxRecDepth 100000 in
set_option maxHeartbeats 6400000 in
theorem offer_fresh1 (T : TB) (now : Int) (d f : Nat) (x : KV) (fl : K3) (t : Nat) (w : World) (h : Blk w t T.obj) (hxd : x.d = d) (hv : ofOk T now f x = true) (hwy : T.Ways) (hpa : x.pa = none ∧ x.pn = 0 ∧ x.pc = 0) (hst : (T.off (d * 8 + f)).stands = true) (hcmp : cmpK (T.off (d * 8 + f)).kn.k x.k ≤ 0) (hlt : now < (T.off (d * 8 + f)).until_) (hnw : nwB x.k (T.off (d * 8 + f)).last = true) (hky : (T.off (d * 8 + f)).kn.k = x.k) : Calls Try.prog 14 #[.pointer (some ⟨t, 0, none⟩), .int .i64 now, .int .i64 f, .agg (knc x).toArray, keyV fl, .bool false] w (OfPost 2 0 (T.putO (d * 8 + f) { T.off (d * 8 + f) with told := now }) t w) := by
  obtain ⟨hd, hf, b1, b2, b3, b4⟩ := ofOk_parts hxd hv
  have hA := fun (w : World) => box_row (t := 51) (cs := knc x) (info51s x) w
  obtain ⟨A, hAe⟩ : ∃ A, A = w.heap.size := ⟨_, rfl⟩
  obtain ⟨F, hFe⟩ : ∃ F, F = A + 1 := ⟨_, rfl⟩
  obtain ⟨W, hW⟩ : ∃ W, W = (w.alloc x.obj).alloc (.cells (kc fl).toArray 47) := ⟨_, rfl⟩
  have H0 : Kp (OF T t x fl A F w W) := ⟨by
    have := h.lt
    rw [hW]
    exact ⟨((Turn.same h).alloc _).alloc _, (Blk.newAt _ hAe).old _, Blk.newAt _ (by rw [hFe, hAe]; simp), by omega, by omega⟩⟩
  have HE := Kp.mk (And.intro hAe hFe)
  have HW := Kp.mk hW
  obtain ⟨fe, fs, fm⟩ := fl
  have H1 := fun W h1 => other_any T t x.d W h1
  have H2 := fun W h1 => other_any T t f W h1
  have H3 := fun W => kright_any x.k W
  have H4 := fun W => time_any now W
  rw [b1] at H1
  rw [b2] at H2
  rw [b3] at H3
  rw [b4] at H4
  have HD8 := Kp.mk hd
  have HF8 := Kp.mk hf
  have HXD := Kp.mk hxd
  have HWY := Kp.mk hwy
  have HPA := Kp.mk hpa
  have hd' : (d : Int) < 8 := by omega
  have hf' : (f : Int) < 8 := by omega
  obtain ⟨o, ho⟩ : ∃ o, o = T.off (d * 8 + f) := ⟨_, rfl⟩
  have HO := Kp.mk ho
  have HOC : Kp (∀ wx, Blk wx t T.obj → wx.cell? ⟨t, 3 + d * 216 + f * 27, none⟩ = some (.bool o.stands) ∧ wx.cell? ⟨t, 3 + d * 216 + f * 27 + 1, none⟩ = some (.int .i64 o.told) ∧ wx.cell? ⟨t, 3 + d * 216 + f * 27 + 23, none⟩ = some (.int .i64 o.until_)) := ⟨fun wx hx => ⟨off_cell (j := 0) hx hd hf (by rw [ho]; rfl), off_cell (j := 1) hx hd hf (by rw [ho]; rfl), off_cell (j := 23) hx hd hf (by rw [ho]; rfl)⟩⟩
  have HOK : Kp (∀ wx, Blk wx t T.obj → wx.rangeAt t (3 + d * 216 + f * 27 + 3) (kc o.kn.k)) := ⟨fun wx hx => by rw [ho]; exact off_key hx hd hf⟩
  have HOL : Kp (∀ wx, Blk wx t T.obj → wx.rangeAt t (3 + d * 216 + f * 27 + 24) (kc o.last)) := ⟨fun wx hx => by rw [ho]; exact off_last hx hd hf⟩
  rw [← ho] at hst hcmp hlt hnw hky
  rw [← ho]
  rw [hst] at HOC
  obtain ⟨X, hX⟩ : ∃ X, X = cmpK o.kn.k x.k := ⟨_, rfl⟩
  have HC := fun wx => compare_any o.kn.k x.k wx
  rw [← hX] at HC hcmp
  clear hX
  have hdec : decide (0 < X) = false := by simp; omega
  have hdl : decide (now < o.until_) = true := by simp; omega
  have HNW := fun wx => newer_any x.k o.last wx
  rw [hnw] at HNW
  have HEQ : ∀ wx, (binOp .eql 47 (keyV o.kn.k) (keyV x.k)).run Try.prog wx = .ok (.bool true) wx := fun wx => by rw [eqlK, K3.beq]; simp [hky]
  clear hW hAe hFe h hd hf hxd hv hwy hpa b1 b2 b3 b4 ho hst hcmp hlt hnw hky
  go_enter Try.func14, Try.ntmps14
  go_upto_region 1 with (refine wpList_box_eq rfl 51 (.tmp 3) rfl _ rfl _ _ (hA _) ?_)
  rw [← HW.out, ← HE.out.1, ← HE.out.2]
  clear hA HW
  obtain ⟨c0, c1, c2, c3⟩ := H0.out.at
  go_wp2_with fail
  refine (H1 _ H0.out.tt.blk).mono ?_
  rintro r w1 ⟨rfl, rfl⟩
  go_wp2_with fail
  refine (H2 _ H0.out.tt.blk).mono ?_
  rintro r w1 ⟨rfl, rfl⟩
  go_wp2_with fail
  refine (H3 _).mono ?_
  rintro r w3 ⟨rfl, hb⟩
  have K3 := Kp.mk (H0.out.keep hb)
  clear hb H0 c0 c1 c2 c3 H1 H2 H3
  go_wp2_with fail
  refine (H4 _).mono ?_
  rintro r w4 ⟨rfl, rfl⟩
  clear H4
  go_wp2_with fail
  refine wp_region_flow (fun w' => OF T t x ⟨fe, fs, fm⟩ A F w w') (by kernel_rfl) (by kernel_rfl) (by kernel_rfl)
    (fun _ _ h hb => h.keep hb) (K3.out.drew) ?_
  repeat (first
    | (apply Flow.value
       · rfl
       · (intro wx hS; obtain ⟨c0, c1, c2, c3⟩ := hS.at; rw [HXD.out] at c0; obtain ⟨p0, p1, p23⟩ := HOC.out _ hS.tt.blk; go_simp; with_reducible rfl)
       try simp only [Act.put, List.setIfInBounds_toArray, List.set_cons_zero, List.set_cons_succ]))
  refine Flow.done ?_
  intro w5 hS
  have K5 := Kp.mk hS
  clear hS K3
  go_wp2_with fail
  refine wp_region_flow (fun w' => OF T t x ⟨fe, fs, fm⟩ A F w w') (by kernel_rfl) (by kernel_rfl) (by kernel_rfl)
    (fun _ _ h hb => h.keep hb) (K5.out.drew) ?_
  repeat (first
    | (apply Flow.idle
       · rfl
       try simp only [Act.put, List.setIfInBounds_toArray, List.set_cons_zero, List.set_cons_succ])
    | (apply Flow.value
       · rfl
       · (intro wx hS; exact exec_load_mid (cs := kc o.kn.k) rfl rfl (HOK.out _ hS.tt.blk) Try.underlying47 rfl (by kernel_rfl))
       try simp only [Act.put, List.setIfInBounds_toArray, List.set_cons_zero, List.set_cons_succ])
    | (apply Flow.value
       · rfl
       · (intro wx hS; exact exec_load_mid (cs := kc x.k) rfl rfl (Blk.range (cs := knc x) (o := 1) hS.a rfl) Try.underlying47 rfl (by kernel_rfl))
       try simp only [Act.put, List.setIfInBounds_toArray, List.set_cons_zero, List.set_cons_succ])
    | (apply Flow.call
       · rfl
       · intro wx hS; go_simp; constructor <;> with_reducible rfl
       · intro wx hS; exact HC wx
       try simp only [Act.put, List.setIfInBounds_toArray, List.set_cons_zero, List.set_cons_succ])
    | (apply Flow.value
       · rfl
       · (intro wx hS; obtain ⟨c0, c1, c2, c3⟩ := hS.at; rw [HXD.out] at c0; obtain ⟨p0, p1, p23⟩ := HOC.out _ hS.tt.blk; go_simp; with_reducible rfl)
       try simp only [Act.put, List.setIfInBounds_toArray, List.set_cons_zero, List.set_cons_succ]))
  refine Flow.done ?_
  intro w6 hS
  have K6 := Kp.mk hS
  clear hS K5 HC hdec
  go_wp2_with fail
  refine wp_region_flow (fun w' => OF T t x ⟨fe, fs, fm⟩ A F w w') (by kernel_rfl) (by kernel_rfl) (by kernel_rfl)
    (fun _ _ h hb => h.keep hb) (K6.out.drew) ?_
  repeat (first
    | (apply Flow.idle
       · rfl
       try simp only [Act.put, List.setIfInBounds_toArray, List.set_cons_zero, List.set_cons_succ])
    | (apply Flow.value
       · rfl
       · (intro wx hS; exact exec_load_mid (cs := kc o.last) rfl rfl (HOL.out _ hS.tt.blk) Try.underlying47 rfl (by kernel_rfl))
       try simp only [Act.put, List.setIfInBounds_toArray, List.set_cons_zero, List.set_cons_succ])
    | (apply Flow.value
       · rfl
       · (intro wx hS; exact exec_load_mid (cs := kc x.k) rfl rfl (Blk.range (cs := knc x) (o := 1) hS.a rfl) Try.underlying47 rfl (by kernel_rfl))
       try simp only [Act.put, List.setIfInBounds_toArray, List.set_cons_zero, List.set_cons_succ])
    | (apply Flow.call
       · rfl
       · intro wx hS; go_simp; constructor <;> with_reducible rfl
       · intro wx hS; exact HNW wx
       try simp only [Act.put, List.setIfInBounds_toArray, List.set_cons_zero, List.set_cons_succ])
    | (apply Flow.value
       · rfl
       · (intro wx hS; obtain ⟨c0, c1, c2, c3⟩ := hS.at; rw [HXD.out] at c0; obtain ⟨p0, p1, p23⟩ := HOC.out _ hS.tt.blk; go_simp; with_reducible rfl)
       try simp only [Act.put, List.setIfInBounds_toArray, List.set_cons_zero, List.set_cons_succ]))
  refine Flow.done ?_
  intro w8 hS
  have K8 := Kp.mk hS
  clear hS K6 hdl HNW
  go_wp2_with fail
  refine wp_region_flow (fun w' => OF T t x ⟨fe, fs, fm⟩ A F w w') (by kernel_rfl) (by kernel_rfl) (by kernel_rfl)
    (fun _ _ h hb => h.keep hb) (K8.out.drew) ?_
  repeat (first
    | (apply Flow.idle
       · rfl
       try simp only [Act.put, List.setIfInBounds_toArray, List.set_cons_zero, List.set_cons_succ])
    | (apply Flow.value
       · rfl
       · (intro wx hS; exact exec_load_mid (cs := kc o.kn.k) rfl rfl (HOK.out _ hS.tt.blk) Try.underlying47 rfl (by kernel_rfl))
       try simp only [Act.put, List.setIfInBounds_toArray, List.set_cons_zero, List.set_cons_succ])
    | (apply Flow.value
       · rfl
       · (intro wx hS; exact exec_load_mid (cs := kc x.k) rfl rfl (Blk.range (cs := knc x) (o := 1) hS.a rfl) Try.underlying47 rfl (by kernel_rfl))
       try simp only [Act.put, List.setIfInBounds_toArray, List.set_cons_zero, List.set_cons_succ])
    | (apply Flow.value
       · rfl
       · (intro wx hS; obtain ⟨c0, c1, c2, c3⟩ := hS.at; rw [HXD.out] at c0; obtain ⟨p0, p1, p23⟩ := HOC.out _ hS.tt.blk; go_simp; with_reducible rfl)
       try simp only [Act.put, List.setIfInBounds_toArray, List.set_cons_zero, List.set_cons_succ]))
  refine Flow.done ?_
  intro w10 hS
  have K10 := Kp.mk hS
  clear hS K8 HEQ
  obtain ⟨p0, p1, p23⟩ := HOC.out _ K10.out.tt.blk
  have f1 := K10.out.tt.blk.frozen (3 + d * 216 + f * 27 + 1)
  have HFI : Kp (Turn t (T.putO (d * 8 + f) { o with told := now }).obj w (w10.setCell ⟨t, 3 + d * 216 + f * 27 + 1, none⟩ (.int .i64 now))) := ⟨by
    have := K10.out.tt.set (3 + d * 216 + f * 27 + 1) (.int .i64 now)
    rw [List.setIfInBounds_toArray, show 3 + d * 216 + f * 27 + 1 = 3 + (d * 8 + f) * 27 + 1 by omega, tc_setO T (k := d * 8 + f) (by have := HD8.out; have := HF8.out; omega) (by omega) (o := { o with told := now }) (by rw [← HO.out]; rfl)] at this
    rw [show 3 + d * 216 + f * 27 + 1 = 3 + (d * 8 + f) * 27 + 1 by omega]
    exact this⟩
  clear K10
  go_wp2_with fail
  go_ret2
  exact ⟨rfl, HFI.out⟩
end Go.Proofs.Ytfpmmbbbndobiaa
