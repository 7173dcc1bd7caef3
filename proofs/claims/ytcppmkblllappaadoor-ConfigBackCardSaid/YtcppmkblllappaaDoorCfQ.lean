/-
  Lines of a text, byte by byte.
-/
import Derived.Test.YtcppmkblllappaaDoorCfE
namespace Go.Proofs.YtcppmkblllappaaDoor

def spl : List UInt8 → List (List UInt8)
  | [] => [[]]
  | c :: r => if c = 10 then [] :: spl r else match spl r with
    | [] => [[c]]
    | h :: t => (c :: h) :: t
theorem spl_split : ∀ l : List UInt8, Lib.splitK [10] 0 (Lib.count l [10]) l = spl l := by
  intro l
  induction l with
  | nil => rfl
  | cons c r ih =>
    unfold spl
    by_cases h : c = 10
    · subst h
      rw [if_pos rfl, ← ih, Lib.count_cons_eq, Nat.add_comm]
      have hi : Lib.index (10 :: r) [10] = 0 := by simp [Lib.index]
      rw [Lib.splitK, hi]
      simp
    · rw [if_neg h, ← ih, Lib.count_cons_ne _ _ _ h]
      have hi : Lib.index (c :: r) [10] = if Lib.index r [10] == -1 then -1 else Lib.index r [10] + 1 := by
        conv => lhs; unfold Lib.index
        simp [h]
        exact fun e => absurd e.symm h
      cases hk : Lib.count r [10] with
      | zero => simp [Lib.splitK]
      | succ k =>
        rw [Lib.splitK, Lib.splitK, hi]
        by_cases hm : Lib.index r [10] = -1
        · simp [hm]
        · have hge := Lib.index_ge r [10]
          obtain ⟨i, hi2⟩ : ∃ i : Nat, Lib.index r [10] = i := ⟨(Lib.index r [10]).toNat, by omega⟩
          rw [hi2]
          have e1 : ((i : Int) == -1) = false := by simp
          have e2 : ((i : Int) + 1 == -1) = false := by simp; omega
          have e3 : ((i : Int) + 1).toNat = i + 1 := by omega
          simp [e1, e2, e3]
theorem spl_no : ∀ m : List UInt8, (∀ c ∈ m, c ≠ 10) → spl m = [m]
  | [], _ => rfl
  | c :: r, h => by
    unfold spl
    rw [if_neg (h c (by simp)), spl_no r (fun x hx => h x (List.mem_cons_of_mem _ hx))]
theorem spl_nl : ∀ (m r : List UInt8), (∀ c ∈ m, c ≠ 10) → spl (m ++ 10 :: r) = m :: spl r
  | [], r, _ => by
    show spl (10 :: r) = _
    unfold spl
    rw [if_pos rfl]
    cases r <;> rfl
  | c :: m, r, h => by
    show spl (c :: (m ++ 10 :: r)) = _
    unfold spl
    rw [if_neg (h c (by simp)), spl_nl m r (fun x hx => h x (List.mem_cons_of_mem _ hx))]
    cases r <;> rfl
theorem lines_spl (s : ByteArray) : lines s = (spl s.data.toList).map fun x => ⟨x.toArray⟩ := by
  have h := Lib.splitB_data nl 0 (Lib.countB s nl) s
  have hn : nl.data.toList = [10] := rfl
  have hc : Lib.countB s nl = Lib.count s.data.toList [10] := rfl
  rw [hn, hc, spl_split] at h
  rw [← h, List.map_map]
  show Lib.splitB nl 0 (Lib.countB s nl) s = _
  rw [hc]
  exact (List.map_id _).symm.trans (List.map_congr_left fun x _ => rfl)
end Go.Proofs.YtcppmkblllappaaDoor
