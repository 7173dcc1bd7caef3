/-
  The document's Lines.
-/
import Derived.Test.YtcppmkblllappaaDoorCfQ
import Derived.Test.YtcppmkblllappaaDoorCfO
import Derived.Laws.AppendOwn
import Derived.Laws.Strings3
import Derived.Laws.DeepStrings4
namespace Go.Proofs.YtcppmkblllappaaDoor
open Go.RowKit Go.Maps

def sv (l : List ByteArray) : List Value := l.map .string
abbrev mkB (x : List UInt8) : ByteArray := ⟨x.toArray⟩
theorem build52 (x : ByteArray) (w : World) : (Instr.buildSlice 52 1 #[(0, .string x)]).run Tryd.prog w = .ok (.slice (some ⟨w.heap.size, 0, none⟩) 1 1) (w.alloc (.cells #[.string x] 9)) := by kernel_rfl
theorem info9 : (Tryd.prog.info? 9).map (fun i => (i.zero, i.size, i.bytes)) = some (some (.string ⟨#[]⟩), 1, 16) := by kernel_rfl
theorem piece_list (s : ByteArray) (a i : Nat) : (s.extract a i).data.toList = (s.data.toList.drop a).take (i - a) := by
  simp [ByteArray.data_extract, List.extract_eq_take_drop]
def LPost (s : ByteArray) (w : World) (e : Ending) (w' : World) : Prop := ∃ v, e = .returned v ∧ w'.ownsRow w.heap.size 9 1 v (lines s).length (sv (lines s)) ∧ Below w.heap.size w w'
set_option maxRecDepth 100000 in
set_option maxHeartbeats 6400000 in
theorem rlines_any (s : ByteArray) (hs : s.size ≤ 4096) (w : World) : Calls Tryd.prog 27 #[.string s] w (LPost s w) := by
  obtain ⟨i0, hi, hz0, hz1, hz2⟩ := info_parts info9
  obtain ⟨B, hB⟩ : ∃ B, B = w.heap.size := ⟨_, rfl⟩
  have HB := Kp.mk hB
  have HP : Kp (∀ v w', w'.ownsRow B 9 1 v (lines s).length (sv (lines s)) → Below B w w' → LPost s w (.returned v) w') := ⟨fun v w' h1 h2 => ⟨v, rfl, by rw [← HB.out]; exact h1, by rw [← HB.out]; exact h2⟩⟩
  have hsz : s.size = s.data.toList.length := by show s.data.size = _; simp
  obtain ⟨l, hl⟩ : ∃ l, l = s.data.toList := ⟨_, rfl⟩
  have HLN : Kp (lines s = (spl l).map mkB) := ⟨by rw [hl]; exact lines_spl s⟩
  rw [← hl] at hsz
  have HL : Kp (l = s.data.toList ∧ s.size = l.length ∧ s.size ≤ 4096) := ⟨hl, hsz, hs⟩
  clear hB hs hsz hl
  go_enter Tryd.func27, Tryd.ntmps27
  go_wp2_with fail
  go_loopw [3, 4, 5] (fun v fr ct wr => ∃ (i a : Nat) (done : List ByteArray), i ≤ s.size ∧ a ≤ i ∧ ct = .int .i64 i ∧ fr = .int .i64 a ∧ Kp ((∀ c ∈ (l.drop a).take (i - a), c ≠ 10) ∧ done.length ≤ a ∧ lines s = done ++ (spl (l.drop a)).map mkB) ∧ Kp (wr.ownsRow B 9 1 v done.length (sv done) ∧ Below B w wr)) (fun _ _ ct _ => s.size - (intOf ct).toNat)
  case atStart => exact ⟨0, 0, [], Nat.zero_le _, Nat.le_refl _, rfl, rfl, ⟨by simp, Nat.le_refl _, by rw [HLN.out]; rfl⟩, ⟨World.ownsRow_nil _ _ _ _, Below.refl _ _⟩⟩
  case round =>
    obtain ⟨i, a, done, his, hai, rfl, rfl, HM, K2⟩ := hrel
    have hi4 : (i : Int) ≤ 4096 := by have := HL.out.2.2; omega
    have KL : Kp (done.length ≤ 4096) := ⟨by have := HM.out.2.1; have := HL.out.2.2; omega⟩
    by_cases hlt : i < s.size
    · have hlt' : (i : Int) < (s.size : Int) := by omega
      have hin : i < l.length := by rw [← HL.out.2.1]; exact hlt
      obtain ⟨d, hd⟩ : ∃ d, d = l[i] := ⟨_, rfl⟩
      have ei : s[i]'hlt = d := by
        have h2 : s.data[i]? = some d := by
          have : s.data.toList[i]? = some d := by rw [← HL.out.1, List.getElem?_eq_getElem hin, hd]
          simpa using this
        exact (Array.getElem?_eq_some_iff.1 h2).2
      have HT : Kp ((l.drop a).take (i + 1 - a) = (l.drop a).take (i - a) ++ [d]) := ⟨by
        rw [show i + 1 - a = (i - a) + 1 by omega, List.take_add_one, List.getElem?_drop, show a + (i - a) = i by omega, List.getElem?_eq_getElem hin, hd]; rfl⟩
      have HJ := Kp.mk hlt
      have HA := Kp.mk hai
      by_cases h10 : d = 10
      · have hd10 : ((d.toNat : Int) == 10) = true := by rw [h10]; rfl
        have HS : Kp (l.drop a = (l.drop a).take (i - a) ++ 10 :: l.drop (i + 1)) := ⟨by
          have h1 : (l.drop a).drop (i - a) = d :: l.drop (i + 1) := by
            rw [List.drop_drop, show a + (i - a) = i by omega, List.drop_eq_getElem_cons hin, hd]
          rw [← h10, ← h1, List.take_append_drop]⟩
        obtain ⟨p, hp⟩ : ∃ p, p = s.extract a i := ⟨_, rfl⟩
        have hsl : ∀ w, (Instr.slice 9 (.string s) (some (.int .i64 (a : Int))) (some (.int .i64 (i : Int))) none).run Tryd.prog w = .ok (.string p) w := fun w => by
          have := run_slice_string (P := Tryd.prog) w 9 s .i64 .i64 (a : Int) (i : Int) Tryd.underlying9 (by omega) (by omega) (by omega)
          rw [this, hp]; rfl
        have HPP : Kp (p = mkB ((l.drop a).take (i - a))) := ⟨by rw [hp, HL.out.1]; exact byte_ext (by rw [piece_list])⟩
        have HN : Kp (lines s = (done ++ [p]) ++ (spl (l.drop (i + 1))).map mkB) := ⟨by
          have h1 := HM.out.2.2
          rw [HS.out, spl_nl _ _ HM.out.1, List.map_cons, ← HPP.out] at h1
          rw [h1, List.append_assoc]; rfl⟩
        have HM1 := Kp.mk HM.out.2.1
        clear hp hd hin HT HM HS h10 HPP
        go_wp2_with (first
          | (refine wpList_buildSlice_eq rfl 52 1 #[(0, .tmp 20)] rfl #[(0, .string p)] (by simp only [List.map_toArray, List.map_cons, List.map_nil]; rfl) (.slice (some ⟨wr.heap.size, 0, none⟩) 1 1) (wr.alloc (.cells #[.string p] 9)) (build52 p wr) ?_)
          | (at_builtin; refine wpList_append_own _ rfl _ _ 52 rfl B 9 i0 (.string ⟨#[]⟩) 1 16 Tryd.underlying52 hi hz0 hz1 hz2 rfl (by decide) u3 done.length (sv done) rfl (ownsRow_below K2.out.1 (more (Below.refl _ _) _)) ⟨wr.heap.size, 0, none⟩ 1 1 [.string p] rfl rfl ?c1 ?c2 ?c3 ?c4 ?c5 ?_
             case c1 =>
               intro j u hj
               match j, hj with
               | 0, hj => simp at hj; subst hj; simp [Addr.add]
             case c2 =>
               intro u hu
               simp at hu
               subst hu
               rfl
             case c3 => have := KL.out; unfold maxLen; omega
             case c4 => have := KL.out; omega
             case c5 => have := K2.out.2.size; have := HB.out; simp; omega
             intro v' w9 hown' hgrow _
             have hbl : Below B w w9 := below_row_grown (K2.out.2.alloc (by have := K2.out.2.size; have := HB.out; omega) _) (by have := K2.out.2.size; have := HB.out; simp; omega) (ownsRow_below K2.out.1 (more (Below.refl _ _) _)) hgrow
             have K9 : Kp (w9.ownsRow B 9 1 v' (done ++ [p]).length (sv (done ++ [p])) ∧ Below B w w9) := ⟨by rw [show (done ++ [p]).length = done.length + 1 by simp, show sv (done ++ [p]) = sv done ++ [.string p] by simp [sv]]; exact hown', hbl⟩
             clear hown' hgrow hbl K2))
        exact ⟨⟨i + 1, i + 1, done ++ [p], by have := HJ.out; omega, Nat.le_refl _, by go_num, by go_num, ⟨by simp, by have := HM1.out; have := HA.out; simp; omega, HN.out⟩, K9⟩, by have := HJ.out; simp [intOf]; omega⟩
      · have hd10 : ((d.toNat : Int) == 10) = false := by
          simp
          intro h
          exact h10 (UInt8.toNat_inj.1 (by show d.toNat = 10; omega))
        have HM2 : Kp ((∀ c ∈ (l.drop a).take (i + 1 - a), c ≠ 10) ∧ done.length ≤ a ∧ lines s = done ++ (spl (l.drop a)).map mkB) := ⟨fun c hc => by
          rw [HT.out] at hc
          rcases List.mem_append.1 hc with h | h
          · exact HM.out.1 c h
          · simp at h; subst h; exact h10, HM.out.2⟩
        clear hd hin HT HM h10
        go_wp2_with fail
        exact ⟨⟨i + 1, a, done, by have := HJ.out; omega, by have := HA.out; omega, by go_num, rfl, HM2, K2⟩, by have := HJ.out; simp [intOf]; omega⟩
    · have hlt' : ¬ (i : Int) < (s.size : Int) := by omega
      obtain ⟨p, hp⟩ : ∃ p, p = s.extract a s.size := ⟨_, rfl⟩
      have hsl : ∀ w, (Instr.slice 9 (.string s) (some (.int .i64 (a : Int))) none none).run Tryd.prog w = .ok (.string p) w := fun w => by
        have := run_slice_string_from_if (P := Tryd.prog) w 9 s .i64 (a : Int) Tryd.underlying9
        rw [this, if_pos ⟨by omega, by omega⟩, hp]; rfl
      have HN : Kp (lines s = done ++ [p]) := ⟨by
        have h1 := HM.out.2.2
        have h2 : (l.drop a).take (i - a) = l.drop a := List.take_of_length_le (by rw [List.length_drop]; have := HL.out.2.1; omega)
        have h3 := HM.out.1
        rw [h2] at h3
        rw [spl_no _ h3] at h1
        rw [h1, hp]
        congr 1
        show [mkB (l.drop a)] = _
        congr 1
        exact byte_ext (by rw [piece_list, ← HL.out.1, List.take_of_length_le (by rw [List.length_drop]; have := HL.out.2.1; omega)])⟩
      clear hp HM
      go_wp2_with (first
        | (refine wpList_buildSlice_eq rfl 52 1 #[(0, .tmp 28)] rfl #[(0, .string p)] (by simp only [List.map_toArray, List.map_cons, List.map_nil]; rfl) (.slice (some ⟨wr.heap.size, 0, none⟩) 1 1) (wr.alloc (.cells #[.string p] 9)) (build52 p wr) ?_)
        | (at_builtin; refine wpList_append_own _ rfl _ _ 52 rfl B 9 i0 (.string ⟨#[]⟩) 1 16 Tryd.underlying52 hi hz0 hz1 hz2 rfl (by decide) u3 done.length (sv done) rfl (ownsRow_below K2.out.1 (more (Below.refl _ _) _)) ⟨wr.heap.size, 0, none⟩ 1 1 [.string p] rfl rfl ?c1 ?c2 ?c3 ?c4 ?c5 ?_
           case c1 =>
             intro j u hj
             match j, hj with
             | 0, hj => simp at hj; subst hj; simp [Addr.add]
           case c2 =>
             intro u hu
             simp at hu
             subst hu
             rfl
           case c3 => have := KL.out; unfold maxLen; omega
           case c4 => have := KL.out; omega
           case c5 => have := K2.out.2.size; have := HB.out; simp; omega
           intro v' w9 hown' hgrow _
           have hbl : Below B w w9 := below_row_grown (K2.out.2.alloc (by have := K2.out.2.size; have := HB.out; omega) _) (by have := K2.out.2.size; have := HB.out; simp; omega) (ownsRow_below K2.out.1 (more (Below.refl _ _) _)) hgrow
           have K9 : Kp (w9.ownsRow B 9 1 v' (done ++ [p]).length (sv (done ++ [p])) ∧ Below B w w9) := ⟨by rw [show (done ++ [p]).length = done.length + 1 by simp, show sv (done ++ [p]) = sv done ++ [.string p] by simp [sv]]; exact hown', hbl⟩
           clear hown' hgrow hbl K2))
      rw [← HN.out] at K9
      go_ret
      exact HP.out _ _ K9.out.1 K9.out.2
end Go.Proofs.YtcppmkblllappaaDoor
