/-
  The document's example; RibNil.
-/
import Derived.Test.YtfpmmbbbndobiaaRbM
namespace Go.Proofs.Ytfpmmbbbndobiaa
open Go.RowKit

/-- A table that lies in new memory. -/
structure Own (w : World) (t : Nat) (T : TB) (w' : World) : Prop where
  le : w.heap.size ≤ t
  blk : Blk w' t T.obj
  hb : Below w.heap.size w w'
  wy : T.Ways
theorem Own.step {w w1 w2 : World} {t : Nat} {T T' : TB} (h : Own w t T w1) (k : Turn t T'.obj w1 w2) (hw : T'.Ways) : Own w t T' w2 := ⟨h.le, k.blk, h.hb.trans (k.below h.le h.hb.size), hw⟩
theorem Own.more {w w1 w2 : World} {t : Nat} {T : TB} (h : Own w t T w1) (k : Below w1.heap.size w1 w2) : Own w t T w2 := ⟨h.le, h.blk.keep k, h.hb.trans (k.mono h.hb.size), h.wy⟩
theorem own_loffer {w w1 : World} {t : Nat} {T : TB} (now f : Int) (k : K3) (h : Own w t T w1) : Calls Try.prog 36 #[.pointer (some ⟨t, 0, none⟩), .int .i64 now, .int .i64 f, keyV k] w1 fun r w' => r = .returned (.tuple #[.int .i64 (ofV T now f (kn0 2 k)).1, .int .i64 (ofV T now f (kn0 2 k)).2.1]) ∧ Own w t (ofV T now f (kn0 2 k)).2.2 w' := by
  refine (loffer_any T now f k t w1 h.blk h.wy).mono ?_
  rintro r w2 ⟨rfl, hT⟩
  exact ⟨rfl, h.step hT (ofV_ways h.wy _ _ _).1⟩
theorem row_slice {w : World} {B : Nat} {v : Value} {l : List Nat} (h : w.ownsRow B 3 1 v l.length (nv l)) : ∃ a c, v = .slice a l.length c := by
  rcases h.2 with ⟨rfl, hn⟩ | ⟨g, cap, cur, rfl, hb, hg, h1, h2, h3, h4⟩
  · exact ⟨none, 0, by rw [hn]⟩
  · exact ⟨_, cap, rfl⟩
theorem own_break {w w1 : World} {t : Nat} {T : TB} (now next : Int) (h : Own w t T w1) (ht : tmB now = true) (hh : 0 ≤ T.hold ∧ T.hold ≤ 1048576) : Calls Try.prog 19 #[.pointer (some ⟨t, 0, none⟩), .int .i64 now, .int .i64 next] w1 fun r w' => (∃ a c, r = .returned (.slice a (dropD T (now + T.hold) (isN next) 8).2.length c)) ∧ Own w t (dropD T (now + T.hold) (isN next) 8).1 w' := by
  refine (break_any T now next t w1 h.blk ht hh h.wy).mono ?_
  rintro r w2 ⟨v, rfl, ho, hT⟩
  obtain ⟨a, c, rfl⟩ := row_slice ho
  exact ⟨⟨a, c, rfl⟩, h.step hT (dropD_ways h.wy _ _ (Nat.le_refl 8))⟩
def q12 : KV := kn0 2 ⟨0, 1, 2⟩
def q11 : KV := kn0 2 ⟨0, 1, 1⟩
def ta : TB := (ofV (tb0 0 3 50) 1 1 q12).2.2
def tb_ : TB := (ofV ta 1 3 q12).2.2
def tcc : TB := (ofV tb_ 1 3 q11).2.2
def td : TB := (dropD tcc 8 (isN 3) 8).1
def te : TB := (ofV td 6 3 q11).2.2
theorem a1 : (ofV (tb0 0 3 50) 1 1 q12).1 = 5 := by decide
theorem a2 : (ofV ta 1 3 q12).1 = 1 := by decide
theorem a3 : (ofV tb_ 1 3 q11).1 = 3 := by decide
theorem a4 : (dropD tcc 8 (isN 3) 8).2.length = 1 := by decide
theorem a5 : lkN td 2 = 1 := by decide
theorem a6 : (ofV td 6 3 q11).2.1 = 28 := by decide
theorem a7 : (ofV te 8 3 q11).1 = 3 := by decide
theorem tcc_hold : tcc.hold = 3 := by decide
theorem out_of {a e a' e' : Int} {r : Ending} (h : r = .returned (.tuple #[.int .i64 a, .int .i64 e])) (h1 : a = a') : r = .returned (.tuple #[.int .i64 a', .int .i64 e]) := by rw [h, h1]
set_option maxRecDepth 100000 in
set_option maxHeartbeats 6400000 in
theorem awake_any (w : World) : Calls Try.prog 11 #[] w fun r w' => r = .returned (.bool true) ∧ Below w.heap.size w w' := by
  have HN := fun w1 => new_yes 0 3 50 w1 (by decide) (by decide)
  go_enter Try.func11, Try.ntmps11
  go_wp2_with fail
  refine (HN _).mono ?_
  rintro r w1 ⟨t, rfl, h1, h2, h3⟩
  have K := Kp.mk (Own.mk h1 h2 h3 (tb0_ways 0 3 50))
  clear h1 h2 h3 HN
  go_wp2_with fail
  refine (own_loffer 1 1 ⟨0, 1, 2⟩ K.out).mono ?_
  rintro r w2 ⟨rfl, hK⟩
  rw [show (ofV (tb0 0 3 50) 1 1 (kn0 2 ⟨0, 1, 2⟩)).1 = 5 from a1]
  have K2 : Kp (Own w t ta w2) := ⟨hK⟩
  generalize (ofV (tb0 0 3 50) 1 1 (kn0 2 ⟨0, 1, 2⟩)).2.1 = e2
  clear hK K
  go_wp2_with fail
  refine (own_loffer 1 3 ⟨0, 1, 2⟩ K2.out).mono ?_
  rintro r w3 ⟨rfl, hK⟩
  rw [show (ofV ta 1 3 (kn0 2 ⟨0, 1, 2⟩)).1 = 1 from a2]
  have K3 : Kp (Own w t tb_ w3) := ⟨hK⟩
  generalize (ofV ta 1 3 (kn0 2 ⟨0, 1, 2⟩)).2.1 = e3
  clear hK K2
  go_wp2_with fail
  refine (own_loffer 1 3 ⟨0, 1, 1⟩ K3.out).mono ?_
  rintro r w4 ⟨rfl, hK⟩
  rw [show (ofV tb_ 1 3 (kn0 2 ⟨0, 1, 1⟩)).1 = 3 from a3]
  have K4 : Kp (Own w t tcc w4) := ⟨hK⟩
  generalize (ofV tb_ 1 3 (kn0 2 ⟨0, 1, 1⟩)).2.1 = e4
  clear hK K3
  go_wp2_with fail
  refine (own_break 5 3 K4.out (by decide) (by rw [tcc_hold]; decide)).mono ?_
  rintro r w5 ⟨⟨a5_, c5, rfl⟩, hK⟩
  rw [tcc_hold] at hK ⊢
  rw [show (dropD tcc (5 + 3) (isN 3) 8).2.length = 1 from a4]
  have K5 : Kp (Own w t td w5) := ⟨hK⟩
  clear hK K4
  go_wp2_with fail
  refine (lookup_any td t 2 _ K5.out.blk K5.out.wy).mono ?_
  rintro r w6 ⟨rfl, rfl⟩
  rw [a5]
  generalize lkB td 2 = b6
  go_wp2_with fail
  refine (own_loffer 6 3 ⟨0, 1, 1⟩ K5.out).mono ?_
  rintro r w7 ⟨rfl, hK⟩
  rw [show (ofV td 6 3 (kn0 2 ⟨0, 1, 1⟩)).2.1 = 28 from a6]
  have K7 : Kp (Own w t te w7) := ⟨hK⟩
  generalize (ofV td 6 3 (kn0 2 ⟨0, 1, 1⟩)).1 = e7
  clear hK K5
  go_wp2_with fail
  refine (own_loffer 8 3 ⟨0, 1, 1⟩ K7.out).mono ?_
  rintro r w8 ⟨rfl, hK⟩
  rw [show (ofV te 8 3 (kn0 2 ⟨0, 1, 1⟩)).1 = 3 from a7]
  have K8 := Kp.mk hK.hb
  generalize (ofV te 8 3 (kn0 2 ⟨0, 1, 1⟩)).2.1 = e8
  clear hK K7
  go_wp2_with fail
  go_ret
  exact ⟨rfl, K8.out⟩
set_option maxRecDepth 100000 in
set_option maxHeartbeats 6400000 in
theorem ribNil_walk (now d : Int) (w : World) (_ : (Lit.int .i64 now).wf = true) (_ : (Lit.int .i64 d).wf = true) : Calls Try.prog 7 #[.int .i64 now, .int .i64 d] w fun r w' => r = .returned (.bool true) ∧ Below w.heap.size w w' := by
  obtain ⟨z, hz⟩ : ∃ z, z = (knc (kn0 d k0)).toArray := ⟨_, rfl⟩
  have HB : Kp (Try.prog.built 51 (#[(0, .int .i64 d)] : Array (Nat × Value)).toList = some z) := ⟨by rw [hz]; exact built51a d⟩
  have HO := fun wx => offer_nil now 1 (kn0 d k0) k0 false wx
  rw [← hz] at HO
  obtain ⟨Z, hZ⟩ : ∃ Z, Z = rt0 := ⟨_, rfl⟩
  have HZ := Kp.mk hZ
  have HINF : Kp ((Try.prog.info? 70).map (fun i => (i.zero, i.size)) = some (some (.agg Z.toArray), 28) ∧ (Try.prog.info? 70).map (·.size) = some Z.toArray.size ∧ ∀ v ∈ Z, v.oneCell' = true) := ⟨by rw [hZ]; exact ⟨info70z, info70s0, rt0_one⟩⟩
  clear hz hZ
  go_enter Try.func7, Try.ntmps7
  go_wp2_with (refine wpList_build_eq rfl 51 #[(0, .tmp 15)] rfl #[(0, .int .i64 d)] (by simp only [List.map_toArray, List.map_cons, List.map_nil]; rfl) z HB.out ?_)
  refine (HO _).mono ?_
  rintro r w1 ⟨rfl, hb⟩
  have K1 := Kp.mk hb
  clear hb HO
  go_wp2_with fail
  refine (get_no (.pointer none) d w1 (fun wx hx => (lookup_nil d wx).mono fun r w' ⟨h1, h2⟩ => ⟨⟨0, h1⟩, h2⟩)).mono ?_
  rintro r w2 ⟨rfl, hb⟩
  rw [← HZ.out]
  have K2 := Kp.mk (K1.out.trans (hb.mono K1.out.size))
  clear hb K1
  go_upto_region 4 with (first
    | (refine wpList_alloc_row rfl 70 rfl Z.toArray 28 HINF.out.1 ?_)
    | (refine wpList_store_row rfl 70 (.tmp 8) (.tmp 25) rfl w2.heap.size Z.toArray rfl rfl 70 _ (Blk.newAt _ rfl) HINF.out.2.1 rfl (all_oneCell_toArray HINF.out.2.2) ?_
       rw [World.setRow_alloc_new]
       have K3 : Kp (Below w.heap.size w (w2.alloc (.cells Z.toArray 70))) := ⟨K2.out.alloc K2.out.size _⟩
       revert K3
       generalize w2.alloc (.cells Z.toArray 70) = w3
       intro K3))
  clear K2
  go_wp2_with fail
  refine (lookup_nil d _).mono ?_
  rintro r w4 ⟨rfl, rfl⟩
  go_wp2_with fail
  refine (awake_any _).mono ?_
  rintro r w5 ⟨rfl, hb⟩
  have K5 := Kp.mk (K3.out.trans (hb.mono K3.out.size))
  clear hb K3
  go_wp2_with fail
  refine (break_nil now 1 _).mono ?_
  rintro r w6 ⟨rfl, hb⟩
  have K6 := Kp.mk (K5.out.trans (hb.mono K5.out.size))
  clear hb K5
  go_wp2_with fail
  refine (expire_nil now _).mono ?_
  rintro r w7 ⟨rfl, hb⟩
  have K7 := Kp.mk (K6.out.trans (hb.mono K6.out.size))
  clear hb K6
  go_wp2_with fail
  refine (valid_no (.pointer none) _ (fun k wx _ _ => (lookup_nil k wx).mono fun r w' ⟨h1, h2⟩ => ⟨⟨0, h1⟩, h2⟩)).mono ?_
  rintro r w8 ⟨rfl, hb⟩
  have K8 := Kp.mk (K7.out.trans (hb.mono K7.out.size))
  clear hb K7
  go_wp2_with fail
  refine (offers_nil d _).mono ?_
  rintro r w9 ⟨rfl, rfl⟩
  go_wp2_with fail
  refine (prune_nil d k0 _).mono ?_
  rintro r w10 ⟨rfl, hb⟩
  have K10 := Kp.mk (K8.out.trans (hb.mono K8.out.size))
  clear hb K8
  go_wp2_with fail
  go_ret
  exact ⟨rfl, K10.out⟩
end Go.Proofs.Ytfpmmbbbndobiaa
